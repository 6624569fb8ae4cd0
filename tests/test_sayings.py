"""Points 30 to 32: sayings, what is known, since when, and how deep."""

import time
import unittest
from random import Random

from saidground.errors import NoHand, NoHands, NoHistory, NoSaying, NoView
from saidground.histories import read_history
from saidground.sayings import deepest, holds, known, since
from saidground.views import least_history, view_of
from tests.helper import by_chance, slow_holds, some_saying

HANDS = ("ann", "bob", "cy")


def of(*rows):
    return read_history(["hands ann bob cy", *rows])


# Ann tells bob of a red thing twice, and of an old one; bob answers of both, and ann reads that.
ROWS = ("see ann 0 red", "see ann 1 old", "write ann bob : 0 red : 1", "write ann bob : 0", "write ann bob",
        "read bob ann 2", "read bob ann 1", "see bob 0 wet", "one bob 0 3", "one bob 1 0",
        "write bob ann : 1 red wet : 2",
        "write bob cy : 2", "read ann bob 1", "write ann bob : 0")
HISTORY = of(*ROWS)
RED, OLD, AGAIN, LAST = ("ann", "bob", 1, 0), ("ann", "bob", 1, 1), ("ann", "bob", 2, 0), ("ann", "bob", 4, 0)
ANSWER, NEW, THIRD = ("bob", "ann", 1, 0), ("bob", "ann", 1, 1), ("bob", "cy", 1, 0)


class Holds(unittest.TestCase):
    def check(self, yes, no, history=HISTORY):
        for saying in yes:
            self.assertIs(holds(history, saying), True, saying)
        for saying in no:
            self.assertIs(holds(history, saying), False, saying)

    def test_wrote(self):
        self.check([("wrote", "ann", "bob", number) for number in (1, 2, 3, 4)] + [("wrote", "bob", "cy", 1)],
                   [("wrote", "ann", "bob", 5), ("wrote", "bob", "ann", 2), ("wrote", "cy", "ann", 1),
                    ("wrote", "ann", "cy", 1), ("wrote", "ann", "ann", 1), ("wrote", "ann", "bob", 10 ** 30)])

    def test_read(self):
        self.check([("read", "ann", "bob", 1), ("read", "ann", "bob", 2), ("read", "bob", "ann", 1)],
                   [("read", "ann", "bob", 3), ("read", "ann", "bob", 4), ("read", "bob", "cy", 1),
                    ("read", "bob", "ann", 2),
                    ("read", "bob", "bob", 1), ("read", "ann", "bob", 10 ** 30)])

    def test_one(self):
        lots = ((RED, AGAIN, ANSWER, LAST), (OLD, NEW, THIRD))
        self.check([("one", first, second) for lot in lots for first in lot for second in lot],
                   [("one", first, second) for first in lots[0] for second in lots[1]] +
                   [("one", RED, ("ann", "bob", 1, 2)), ("one", ("ann", "bob", 5, 0), RED),
                    ("one", ("ann", "bob", 3, 0), ("ann", "bob", 3, 0)),
                    ("one", ("ann", "ann", 1, 0), ("ann", "ann", 1, 0)),
                    ("one", RED, ("bob", "bob", 1, 0)), ("one", RED, ("ann", "bob", 10 ** 30, 10 ** 30))])

    def test_word(self):
        self.check([("word", slot, word) for slot in (RED, AGAIN, LAST, ANSWER) for word in ("red", "wet")] +
                   [("word", slot, "old") for slot in (OLD, NEW, THIRD)],
                   [("word", OLD, "red"), ("word", RED, "old"), ("word", RED, "tall"),
                    ("word", ("ann", "bob", 3, 0), "red"),
                    ("word", ("ann", "bob", 1, 2), "red"), ("word", ("cy", "ann", 1, 0), "red"),
                    ("word", ("ann", "ann", 1, 0), "red")])

    def test_both_and_either(self):
        yes, no = ("read", "ann", "bob", 1), ("read", "ann", "bob", 3)
        self.check([("both", yes, yes), ("either", yes, yes), ("either", yes, no), ("either", no, yes)],
                   [("both", yes, no), ("both", no, yes), ("both", no, no), ("either", no, no)])

    def test_knows(self):
        self.check([("knows", "ann", ("read", "ann", "bob", 1)), ("knows", "bob", ("wrote", "ann", "bob", 2)),
                    ("knows", "ann", ("wrote", "ann", "bob", 3)),
                    ("knows", "ann", ("knows", "bob", ("word", RED, "red"))),
                    ("knows", "bob", ("one", AGAIN, RED)), ("knows", "bob", ("one", OLD, NEW)),
                    ("knows", "ann", ("one", RED, LAST)), ("knows", "ann", ("knows", "bob", ("word", RED, "wet"))),
                    ("knows", "ann", ("knows", "ann", ("wrote", "ann", "bob", 4)))],
                   [("knows", "cy", ("wrote", "ann", "bob", 1)), ("knows", "cy", ("wrote", "bob", "cy", 1)),
                    ("knows", "bob", ("wrote", "ann", "bob", 3)), ("knows", "bob", ("read", "bob", "ann", 1)),
                    ("knows", "bob", ("word", OLD, "old")), ("knows", "ann", ("one", OLD, NEW)),
                    ("knows", "ann", ("knows", "bob", ("one", RED, AGAIN))),
                    ("knows", "ann", ("knows", "bob", ("wrote", "ann", "bob", 3))),
                    ("knows", "ann", ("wrote", "bob", "cy", 1)), ("knows", "ann", ("read", "ann", "bob", 3))])

    def test_holds_though_nobody_knows(self):
        saying = ("one", RED, THIRD)
        history = of("see ann 0 red", "write ann bob : 0", "see bob 0", "write bob cy : 0")
        self.assertTrue(holds(history, saying))
        for hand in HANDS:
            self.assertFalse(holds(history, ("knows", hand, saying)))

    def test_no_deeds(self):
        self.check([], [("wrote", "ann", "bob", 1), ("read", "ann", "bob", 1), ("one", RED, RED), ("word", RED, "red"),
                        ("knows", "ann", ("wrote", "ann", "bob", 1))], of())

    def test_arguments_by_names(self):
        self.assertIs(holds(saying=("wrote", "ann", "bob", 1), history=HISTORY), True)


class Known(unittest.TestCase):
    def test_just_what_the_least_history_makes_hold(self):
        for hand in HANDS:
            view = view_of(HISTORY, hand)
            least = least_history(HANDS, view)
            for saying in (("wrote", "ann", "bob", 3), ("read", "ann", "bob", 1), ("word", RED, "red"),
                           ("one", RED, AGAIN),
                           ("one", ANSWER, AGAIN), ("word", ANSWER, "wet"), ("one", OLD, NEW),
                           ("knows", "bob", ("one", RED, AGAIN))):
                self.assertIs(known(HANDS, view, saying), holds(least, saying))
                self.assertIs(known(HANDS, view, saying), holds(HISTORY, ("knows", hand, saying)))

    def test_letters(self):
        view = view_of(HISTORY, "ann")
        for saying, told in ((("wrote", "ann", "bob", 4), True), (("wrote", "bob", "ann", 1), True),
                             (("wrote", "bob", "cy", 1), False), (("read", "ann", "bob", 1), True),
                             (("read", "ann", "bob", 2), True), (("read", "ann", "bob", 3), False)):
            self.assertIs(known(HANDS, view, saying), told, saying)

    def test_letters_of_lesser_numbers_and_of_third_hands(self):
        view = ("ann", (("read", "bob", 3, (("cy", 2),), ()),))
        for saying, told in ((("wrote", "bob", "ann", 1), True), (("wrote", "bob", "ann", 3), True),
                             (("wrote", "bob", "ann", 4), False), (("wrote", "cy", "bob", 1), True),
                             (("wrote", "cy", "bob", 2), True), (("wrote", "cy", "bob", 3), False),
                             (("read", "cy", "bob", 2), True), (("read", "cy", "bob", 1), False),
                             (("read", "bob", "ann", 3), True), (("read", "bob", "ann", 2), False),
                             (("knows", "bob", ("read", "cy", "bob", 2)), True),
                             (("knows", "cy", ("wrote", "cy", "bob", 2)), True),
                             (("knows", "cy", ("read", "cy", "bob", 2)), False)):
            self.assertIs(known(HANDS, view, saying), told, saying)

    def test_arguments_by_names(self):
        self.assertIs(known(view=("ann", ()), saying=("wrote", "ann", "bob", 1), hands=HANDS), False)


GOOD = ("wrote", "ann", "bob", 1)


def deep(many, inner=GOOD, hands=("ann",)):
    """A saying so many deep, by hands in turn from the inmost one on."""
    saying = inner
    for k in range(many - 1):
        saying = ("knows", hands[k % len(hands)], saying)
    return saying


def wide(many):
    """A saying of so many parts, an odd count, none of them deep."""
    row = [GOOD] * ((many + 1) // 2)
    while len(row) > 1:
        row = [("either", *row[k:k + 2]) if k + 1 < len(row) else row[k] for k in range(0, len(row), 2)]
    return row[0]


class Refused(unittest.TestCase):
    def path(self, saying):
        paths = []
        for call in (lambda: holds(HISTORY, saying), lambda: known(HANDS, ("ann", ()), saying),
                     lambda: since(HANDS, ("ann", ()), saying),
                     lambda: deepest(HANDS, ("ann", ()), saying, "no hands")):
            with self.assertRaises(NoSaying, msg=saying) as caught:
                call()
            paths.append(caught.exception.wrong)
        self.assertEqual(paths, paths[:1] * 4)
        return paths[0]

    def test_no_part(self):
        for bad in (None, True, 5, "wrote", (), ("wrote",), list(GOOD), ("written", "ann", "bob", 1),
                    (None, "ann", "bob", 1),
                    (["wrote"], "ann", "bob", 1), ("wrote", "ann", "bob"), GOOD + (1,), ("read", "ann", "bob"),
                    ("one", RED),
                    ("one", RED, RED, RED), ("word", RED), ("word", RED, "red", "red"), ("both", GOOD),
                    ("both", GOOD, GOOD, GOOD),
                    ("either", GOOD), ("either", GOOD, GOOD, GOOD), ("knows", "ann"), ("knows", "ann", GOOD, GOOD),
                    ("not", GOOD), ("", GOOD, GOOD), (5, GOOD, GOOD), ("wrote", GOOD, GOOD), ("both", "ann", "bob", 1)):
            self.assertEqual(self.path(bad), (), bad)
            self.assertEqual(self.path(("both", bad, bad)), (1,), bad)
            self.assertEqual(self.path(("either", GOOD, bad)), (2,), bad)
            self.assertEqual(self.path(("knows", "cy", ("both", GOOD, bad))), (2, 2), bad)

    def test_hands(self):
        for bad in ("dan", "", None, True, 5, ["ann"], ("ann",)):
            for saying in (("wrote", bad, "bob", 1), ("wrote", "ann", bad, 1), ("read", bad, "bob", 1),
                           ("read", "ann", bad, 1),
                           ("one", (bad, "bob", 1, 0), RED), ("one", RED, ("ann", bad, 1, 0)),
                           ("word", (bad, "bob", 1, 0), "red"),
                           ("word", ("ann", bad, 1, 0), "red"), ("knows", bad, GOOD)):
                self.assertEqual(self.path(saying), (), saying)
        with self.assertRaises(NoSaying):
            known(("ann", "bob"), ("ann", ()), ("wrote", "ann", "cy", 1))

    def test_numbers(self):
        for bad in (0, -1, True, False, None, "1", (1,), [1]):
            for saying in (("wrote", "ann", "bob", bad), ("read", "ann", "bob", bad),
                           ("one", ("ann", "bob", bad, 0), RED),
                           ("one", RED, ("ann", "bob", bad, 0)), ("word", ("ann", "bob", bad, 0), "red")):
                self.assertEqual(self.path(saying), (), saying)
        for bad in (-1, True, False, None, "0", (0,), [0]):
            for saying in (("one", ("ann", "bob", 1, bad), RED), ("one", RED, ("ann", "bob", 1, bad)),
                           ("word", ("ann", "bob", 1, bad), "red")):
                self.assertEqual(self.path(saying), (), saying)

    def test_slots_and_words(self):
        for bad in (None, 5, True, "slot", (), RED[:3], RED + (0,), list(RED)):
            for saying in (("one", bad, RED), ("one", RED, bad), ("word", bad, "red")):
                self.assertEqual(self.path(saying), (), saying)
        for bad in (None, 5, True, "", "Red", "toolongaa", ("red",), ["red"], ()):
            self.assertEqual(self.path(("word", RED, bad)), (), bad)

    def test_parts_ahead_of_what_is_in_them_and_first_ones_ahead_of_second_ones(self):
        bad = ("wrote", "ann", "bob", 0)
        self.assertEqual(self.path(("both", ("knows", "ann", bad), bad)), (1, 2))
        self.assertEqual(self.path(("both", ("knows", "ann", GOOD), bad)), (2,))
        self.assertEqual(self.path(("both", ("knows", "dan", bad), bad)), (1,))
        self.assertEqual(self.path(("knows", "dan", bad)), ())
        self.assertEqual(self.path(("either", ("either", GOOD, ("both", GOOD, bad)), ("either", bad, bad))), (1, 2, 2))
        self.assertEqual(self.path(("knows", "ann", ("knows", "bob", ("either", bad, GOOD)))), (2, 2, 1))

    def test_eight_and_nine_deep(self):
        self.assertIs(holds(HISTORY, deep(8)), True)
        self.assertEqual(self.path(deep(9)), (2,) * 8)
        self.assertEqual(self.path(deep(8, ("knows", "ann", GOOD))), (2,) * 8)
        self.assertEqual(self.path(deep(8, ("both", None, GOOD))), (2,) * 7 + (1,))
        self.assertEqual(self.path(deep(8, ("both", GOOD))), (2,) * 7)
        self.assertEqual(self.path(deep(12)), (2,) * 8)
        self.assertEqual(self.path(("both", deep(9), None)), (1,) + (2,) * 7)
        self.assertEqual(self.path(("both", deep(7), None)), (2,))

    def test_forty_and_forty_one_parts(self):
        self.assertIs(holds(HISTORY, wide(39)), True)
        forty = ("knows", "ann", wide(39))
        self.assertIs(holds(HISTORY, forty), True)
        self.assertEqual(self.path(wide(41)), ())
        self.assertEqual(self.path(("knows", "ann", forty)), ())
        self.assertEqual(self.path(("both", wide(41), None)), (2,))
        self.assertEqual(self.path(("both", wide(39), ("knows", "dan", GOOD))), (2,))
        self.assertEqual(self.path(("both", wide(39), deep(8))), (2,) * 8)

    def test_the_same_part_over_and_over(self):
        saying = GOOD
        for _ in range(7):
            saying = ("both", saying, saying)
        self.assertEqual(self.path(saying), ())
        for _ in range(100):
            saying = ("both", saying, saying)
        self.assertEqual(self.path(saying), (1,) * 8)

    def test_history_hands_and_views_go_ahead(self):
        for bad, told in ((5, ("history",)), ((HANDS, (("look", "ann", 0, ()),)), ("done", 0))):
            with self.assertRaises(NoHistory) as caught:
                holds(bad, "no saying")
            self.assertEqual(caught.exception.wrong, told)
        for function, rest in ((known, ()), (since, ()), (deepest, ("no hands",))):
            for bad in (None, ("ann",), ("bob", "ann"), ["ann", "bob"], 5, True):
                with self.assertRaises(NoHands):
                    function(bad, "no view", "no saying", *rest)
            for bad, told in ((5, ("view",)), (("ann", (("look", 0, ()),)), ("entry", 0)), (("dan", ()), ("view",))):
                with self.assertRaises(NoView) as caught:
                    function(HANDS, bad, "no saying", *rest)
                self.assertEqual(caught.exception.wrong, told)


class Since(unittest.TestCase):
    VIEW = view_of(HISTORY, "ann")

    def test_counts(self):
        for saying, told in ((("wrote", "ann", "bob", 1), 3), (("wrote", "ann", "bob", 2), 4),
                             (("word", RED, "red"), 3),
                             (("one", RED, AGAIN), 4), (("read", "ann", "bob", 2), 6), (("read", "bob", "ann", 1), 6),
                             (("one", RED, ANSWER), 6), (("word", AGAIN, "wet"), 6), (("one", LAST, LAST), 7),
                             (("read", "ann", "bob", 3), None), (("read", "ann", "bob", 4), None),
                             (("word", OLD, "wet"), None),
                             (("one", OLD, NEW), None), (("word", OLD, "old"), 3),
                             (("knows", "bob", ("wrote", "ann", "bob", 1)), 6),
                             (("both", ("wrote", "ann", "bob", 1), ("wrote", "ann", "bob", 3)), 5),
                             (("either", ("wrote", "ann", "bob", 3), ("wrote", "ann", "bob", 1)), 3)):
            self.assertEqual(since(HANDS, self.VIEW, saying), told, saying)

    def test_known_at_once(self):
        view = ("ann", (("write", "bob", ()),) * 5)
        for number in range(1, 6):
            told = since(hands=HANDS, view=view, saying=("wrote", "ann", "bob", number))
            self.assertEqual(told, number)
            self.assertNotIsInstance(told, bool)

    def test_without_entries(self):
        self.assertIsNone(since(HANDS, ("ann", ()), GOOD))

    def test_beginnings(self):
        hand, entries = self.VIEW
        for saying in (("one", RED, AGAIN), ("word", AGAIN, "wet"), ("read", "ann", "bob", 1),
                       ("wrote", "ann", "bob", 4)):
            told = since(HANDS, self.VIEW, saying)
            for many in range(len(entries) + 1):
                self.assertIs(known(HANDS, (hand, entries[:many]), saying), many >= told)


class Deepest(unittest.TestCase):
    def setUp(self):
        rows = ["see ann 0 red", "write ann bob : 0 red", "read bob ann 1", "write bob ann", "read ann bob 1",
                "write ann bob",
                "read bob ann 2", "write bob ann"]
        self.view = view_of(of(*rows), "bob")
        self.saying = ("word", RED, "red")

    def deepest(self, *others, saying=None):
        return deepest(HANDS, self.view, saying or self.saying, others)

    def test_counts(self):
        self.assertEqual(self.deepest(), 0)
        self.assertEqual(self.deepest("ann"), 1)
        self.assertEqual(self.deepest("cy"), 0)
        self.assertEqual(self.deepest("ann", "cy", "ann"), 1)
        self.assertEqual(self.deepest("ann", "bob"), 2)
        self.assertEqual(self.deepest("ann", "bob", "ann"), 3)
        self.assertEqual(self.deepest("ann", "bob", "ann", "bob"), 3)
        self.assertEqual(self.deepest("ann", "bob", "ann", "cy"), 3)
        self.assertNotIsInstance(self.deepest("ann"), bool)

    def test_own_hand_and_the_same_again(self):
        self.assertEqual(self.deepest("bob"), 1)
        self.assertEqual(self.deepest(*["bob"] * 8), 8)
        self.assertEqual(self.deepest("bob", "ann", "ann", "bob", "bob", "ann", "ann", "cy"), 7)
        self.assertEqual(self.deepest("ann", "ann", "ann", "bob", "ann", "bob", "ann", "bob"), 5)

    def test_not_known(self):
        for others in ((), ("ann",), ("bob",) * 8):
            self.assertIsNone(self.deepest(*others, saying=("word", RED, "wet")))

    def test_more_than_eight_deep(self):
        saying = deep(8, ("word", RED, "red"), ("bob",) * 6 + ("ann",))
        self.assertEqual(self.deepest(*["bob"] * 7, "ann", saying=saying), 8)
        self.assertEqual(self.deepest("bob", "bob", "ann", "bob", "cy", saying=saying), 3)

    def test_as_known_of_knows(self):
        for others in (("ann",), ("bob", "ann"), ("ann", "bob", "ann"), ("ann", "bob", "ann", "bob"), ("cy",),
                       ("ann", "cy")):
            saying = self.saying
            for other in others[::-1]:
                saying = ("knows", other, saying)
            self.assertIs(known(HANDS, self.view, saying), self.deepest(*others) == len(others))

    def test_no_such_tuple(self):
        for bad in (None, 5, True, "ann", ["ann"], ("ann", "dan"), ("ann",) * 9, ("ann", None), (("ann",),),
                    (["ann"],), (True,)):
            with self.assertRaises(NoHand):
                deepest(HANDS, self.view, self.saying, bad)
            with self.assertRaises(NoHand):
                deepest(others=bad, saying=("word", RED, "wet"), view=self.view, hands=HANDS)


class ByChance(unittest.TestCase):
    def test_against_a_slow_reading(self):
        told = {True: 0, False: 0}
        for seed in range(40):
            slow = by_chance(seed, 30)
            chance = Random(seed)
            for _ in range(12):
                saying = some_saying(chance, slow)
                answer = holds(slow.history(), saying)
                self.assertIs(answer, slow_holds(slow, saying), saying)
                told[answer] += 1
        self.assertGreater(min(told.values()), 50)

    def test_what_is_known_holds_and_stays_known(self):
        for seed in range(25):
            slow = by_chance(seed, 30)
            chance = Random(seed)
            hand = chance.choice(slow.hands)
            view = slow.view(hand)
            for _ in range(6):
                saying = some_saying(chance, slow)
                first = since(slow.hands, view, saying)
                answers = [known(slow.hands, (hand, view[1][:many]), saying) for many in range(len(view[1]) + 1)]
                self.assertEqual(answers, [first is not None and many >= first for many in range(len(answers))])
                if answers[-1]:
                    self.assertTrue(holds(slow.history(), saying))

    def test_deepest_by_nested_sayings(self):
        for seed in range(25):
            slow = by_chance(seed, 50)
            chance = Random(seed)
            for _ in range(4):
                hand = chance.choice(slow.hands)
                saying = some_saying(chance, slow, 2)
                others = tuple(chance.choice(slow.hands) for _ in range(4))
                nested = []
                for many in range(5):
                    inner = saying
                    for other in others[:many][::-1]:
                        inner = ("knows", other, inner)
                    nested.append(known(slow.hands, slow.view(hand), inner))
                told = deepest(slow.hands, slow.view(hand), saying, others)
                self.assertEqual(told, max([many for many in range(5) if nested[many]], default=None))


class Soon(unittest.TestCase):
    def test_of_a_long_talk(self):
        rows = ["see ann 0 red", "see ann 1 old"]
        for number in range(1, 21):
            rows += ["write ann bob : 0 red : 1 old", f"read bob ann {number}", "write bob ann : 0 red : 1 old",
                     f"read ann bob {number}"]
        view = view_of(of(*rows), "ann")
        start = time.monotonic()
        saying = deep(8, ("one", RED, ("bob", "ann", 3, 0)), ("ann", "bob"))
        self.assertIs(known(HANDS, view, saying), True)
        # Ann has bob's third letter by eight entries; each time that he has word of it she needs two more.
        self.assertEqual(since(HANDS, view, saying), 14)
        self.assertEqual(deepest(HANDS, view, saying, ("bob", "ann") * 4), 8)
        self.assertLess(time.monotonic() - start, 20)


if __name__ == "__main__":
    unittest.main()
