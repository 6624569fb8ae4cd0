"""Points 70 to 72: views side by side, their least history, and what their hands know together."""

import unittest
from collections import Counter
from itertools import combinations
from random import Random

from saidground.errors import NoHands, NoSaying, NoViews
from saidground.histories import history_wrong, printed, read_history
from saidground.sayings import holds, known
from saidground.sides import known_together, together, together_wrong
from saidground.views import least_history, view_of, view_wrong
from tests.helper import Slow, Together, WORDS, bent_names, by_chance, some_deed, some_saying, some_words

HANDS = ("ann", "bob", "cy")
ALL = ("ann", "bob", "cy", "dan", "eve")
NO_HANDS = (None, 5, True, "ann", (), ("ann",), ["ann", "bob"], ("bob", "ann"), ("ann", "ann"), ("ann", 5),
            ("a", "b", "c", "d", "e", "f"), ("ann", "Bob"))


def of(*rows, hands="ann bob cy"):
    return read_history(["hands " + hands, *rows])


def views_of(history, *inner):
    return tuple(view_of(history, hand) for hand in inner)


class LeastHistories(unittest.TestCase):
    def check(self, history, inner, rows):
        views = views_of(history, *inner.split())
        self.assertIsNone(together_wrong(history[0], views))
        told = together(history[0], views)
        self.assertEqual(printed(told)[1:], list(rows))
        self.assertIsNone(history_wrong(told))
        self.assertEqual(views_of(told, *inner.split()), views)
        self.assertEqual(together(views=views_of(told, *inner.split()), hands=told[0]), told)

    def test_nothing(self):
        self.check(of("see cy 0", "write cy ann"), "ann bob", [])
        self.check(of(), "ann bob cy", [])

    def test_of_one_view_it_is_the_least_history(self):
        history = of("see bob 5 red", "write bob ann : 0 red", "write bob ann", "read ann bob 2", "see ann 1",
                     "read ann bob 1")
        for hand in HANDS:
            views = views_of(history, hand)
            self.assertEqual(together(HANDS, views), least_history(HANDS, views[0]))
        self.check(history, "ann", ["see bob 1 red", "write bob ann : 0 red", "write bob ann", "read ann bob 2",
                                    "see ann 0", "read ann bob 1"])

    def test_things_are_lots_of_all_that_inner_hands_hold(self):
        # The letter read makes ann's and bob's cards one, each one's own finding the rest; bob's 2 is his alone.
        rows = ["see ann 9 red", "see ann 4", "see ann 9 old", "one ann 2 0", "write ann bob : 2 old", "see bob 9 tall",
                "see bob 4", "read bob ann 1", "one bob 2 0"]
        self.check(of(*rows), "ann bob", ["see ann 0 red", "see ann 1", "see ann 0 old", "one ann 2 0",
                                          "write ann bob : 2 old", "see bob 0 tall", "see bob 2", "read bob ann 1",
                                          "one bob 2 0"])
        # A letter that isn't read joins nothing.
        self.check(of(*rows[:7]), "ann bob", ["see ann 0 red", "see ann 1", "see ann 0 old", "one ann 2 0",
                                              "write ann bob : 2 old", "see bob 2 tall", "see bob 3"])

    def test_things_are_those_of_the_views_ends(self):
        self.check(of("see bob 0 red", "write bob ann : 0 red", "see ann 0", "read ann bob 1", "one ann 0 1",
                      "see bob 0", "write bob ann", "one bob 0 1"), "ann bob",
                   ["see ann 0", "see bob 0 red", "write bob ann : 0 red", "read ann bob 1", "one ann 0 1",
                    "see bob 0", "write bob ann", "one bob 0 1"])

    def test_outer_hands_join_nothing(self):
        # What cy told both of was one thing; neither of them can tell so.
        history = of("see cy 3 red", "write cy ann : 0 red", "write cy bob : 0 red", "read ann cy 1", "read bob cy 1",
                     "write ann bob", "read bob ann 1")
        self.check(history, "ann bob", [
            "see cy 0 red", "write cy ann : 0 red", "read ann cy 1", "write ann bob", "see cy 1 red",
            "write cy bob : 1 red", "read bob cy 1", "read bob ann 1"])
        self.check(history, "ann bob cy", [
            "see cy 0 red", "write cy ann : 0 red", "read ann cy 1", "write ann bob", "write cy bob : 0 red",
            "read bob cy 1", "read bob ann 1"])

    def test_the_first_hand_goes_on_when_it_can(self):
        self.check(of("see bob 0 red", "write bob ann : 0 red", "see bob 1", "see ann 2", "read ann bob 1",
                      "write ann bob : 1", "see ann 3", "read bob ann 1", "see bob 4"), "ann bob",
                   ["see ann 0", "see bob 1 red", "write bob ann : 0 red", "read ann bob 1", "write ann bob : 1",
                    "see ann 2", "see bob 3", "read bob ann 1", "see bob 4"])

    def test_letters_between_inner_hands_late_lost_and_read_twice(self):
        self.check(of("see ann 0 red", "write ann bob : 0 red", "write ann bob : 0", "write ann bob : 0 red",
                      "read bob ann 3", "read bob ann 3", "write bob ann : 0", "read bob ann 1", "read ann bob 1",
                      "read ann bob 1"), "ann bob",
                   ["see ann 0 red", "write ann bob : 0 red", "write ann bob : 0", "write ann bob : 0 red",
                    "read bob ann 3", "read bob ann 3", "write bob ann : 0", "read ann bob 1", "read ann bob 1",
                    "read bob ann 1"])

    def test_letters_to_outer_hands(self):
        # Bob waits for nothing of ann's; what cy answers him waits for what he wrote.
        self.check(of("see bob 0 red", "write bob cy : 0 red", "write ann cy", "read cy bob 1", "write cy bob : 0",
                      "read bob cy 1", "see ann 3"), "ann bob",
                   ["write ann cy", "see ann 0", "see bob 1 red", "write bob cy : 0 red", "read cy bob 1",
                    "write cy bob : 0", "read bob cy 1"])

    def test_letters_of_outer_hands_wait_for_those_that_their_names_tell_of(self):
        self.check(of("see bob 0", "write bob cy : 0", "see bob 1", "read cy bob 1", "write cy ann", "read ann cy 1",
                      "see ann 2"), "ann bob",
                   ["see bob 1", "write bob cy : 0", "read cy bob 1", "write cy ann", "read ann cy 1", "see ann 0",
                    "see bob 2"])

    def test_letters_between_outer_hands_come_first(self):
        # Ann was told of dan's 2 and 3 by cy's names, and of cy's 1, 3 (bob of 2 alone) by dan's.
        history = of("write cy dan", "write cy dan", "write cy dan", "write dan cy", "write dan cy", "write dan cy",
                     "write dan cy", "read dan cy 2", "write dan bob", "read dan cy 1", "read dan cy 3",
                     "write dan ann", "read cy dan 3", "read cy dan 2", "write cy ann", "read cy dan 1",
                     "write cy dan", "read bob dan 1", "read ann dan 1", "read ann cy 1", hands="ann bob cy dan")
        begun = ["write cy dan"] * 3 + ["write dan cy"] * 3
        self.check(history, "ann bob", begun + [
            "read dan cy 2", "write dan bob", "read dan cy 1", "read dan cy 3", "write dan ann", "read ann dan 1",
            "read cy dan 2", "read cy dan 3", "write cy ann", "read ann cy 1", "read bob dan 1"])
        self.check(history, "bob", ["write cy dan", "write cy dan", "read dan cy 2", "write dan bob", "read bob dan 1"])
        # What is an inner hand's own is written by it; what it reads without names is written ahead of dan's to ann.
        self.check(history, "ann cy", [
            "write cy dan", "write cy dan", "write cy dan", "write dan cy", "write dan cy", "write dan cy",
            "read dan cy 1", "read dan cy 2", "read dan cy 3", "write dan ann", "read ann dan 1", "read cy dan 3",
            "read cy dan 2", "write cy ann", "read ann cy 1", "read cy dan 1", "write cy dan"])

    def test_letters_whose_names_are_a_part_are_written_ahead(self):
        history = of("write ann cy", "write bob cy", "write cy bob", "see cy 0 red", "see cy 1 old",
                     "write cy ann : 0 red", "read cy bob 1", "write cy bob : 1 old", "write cy bob : 1 old",
                     "read cy ann 1", "write cy ann : 0", "read ann cy 2", "read bob cy 3", "read bob cy 1",
                     "read ann cy 1", "read bob cy 1")
        # By how many names they have, then by reader, then number: those that are lost right ahead of the next.
        self.check(history, "ann bob", [
            "write ann cy", "write bob cy", "see cy 1 red", "write cy ann : 0 red", "write cy bob", "write cy bob",
            "read cy bob 1", "see cy 2 old", "write cy bob : 1 old", "read cy ann 1", "see cy 0", "write cy ann : 2",
            "read ann cy 2", "read ann cy 1", "read bob cy 3", "read bob cy 1", "read bob cy 1"])

    def test_letters_with_the_same_names_are_not(self):
        history = of("write ann cy", "read cy ann 1", "see cy 0 red", "write cy bob : 0", "write cy ann : 0 red",
                     "write cy ann", "read ann cy 2", "read bob cy 1", "read ann cy 1")
        self.check(history, "ann bob", [
            "write ann cy", "read cy ann 1", "see cy 0 red", "write cy ann : 0 red", "write cy ann", "read ann cy 2",
            "read ann cy 1", "see cy 1", "write cy bob : 1", "read bob cy 1"])

    def test_of_a_letter_without_names_none_is_a_part(self):
        self.check(of("see cy 0 red", "write cy bob : 0", "write cy ann : 0 red", "write cy ann", "read ann cy 2",
                      "read bob cy 1", "read ann cy 1"), "ann bob",
                   ["see cy 0 red", "write cy ann : 0 red", "write cy ann", "read ann cy 2", "read ann cy 1",
                    "see cy 1", "write cy bob : 1", "read bob cy 1"])

    def test_descriptions_of_outer_hands(self):
        history = of("see ann 0 red", "write ann cy : 0 red", "write ann cy : 0", "see bob 0 old", "see bob 1",
                     "write bob cy : 0 old : 1", "read cy ann 2", "read cy ann 1", "one cy 0 1", "look cy 0 big wet",
                     "read cy bob 1", "one cy 2 0", "write cy ann : 0 big red", "write cy bob : 2", "read ann cy 1",
                     "read bob cy 1")
        self.check(history, "ann bob", [
            "see ann 0 red", "write ann cy : 0 red", "write ann cy : 0", "see bob 1 old", "see bob 2",
            "write bob cy : 0 old : 1", "read cy ann 1", "read cy ann 2", "read cy bob 1", "one cy 0 1",
            "look cy 0 big", "write cy ann : 0 big red", "read ann cy 1", "write cy bob : 2", "read bob cy 1"])

    def test_all_hands(self):
        history = of("see ann 5 red", "see bob 5 tall", "write ann bob : 0 red", "write bob ann : 0 tall",
                     "read bob ann 1", "read ann bob 1", "one bob 0 1", "write bob ann : 0 red", "read ann bob 2")
        rows = ["see ann 0 red", "write ann bob : 0 red", "see bob 0 tall", "write bob ann : 0 tall", "read ann bob 1",
                "read bob ann 1", "one bob 0 1", "write bob ann : 0 red", "read ann bob 2"]
        self.check(history, "ann bob cy", rows)
        self.check(history, "ann bob", rows)


class Wrong(unittest.TestCase):
    def setUp(self):
        self.history = of("see ann 0 red", "write ann bob : 0 red", "read bob ann 1", "write bob ann : 0",
                          "read ann bob 1")
        self.views = views_of(self.history, "ann", "bob")

    def told(self, views, wrong, hands=HANDS):
        self.assertEqual(together_wrong(hands, views), wrong)
        if wrong is None:
            together(hands, views)
            return
        for call in (lambda: together(hands, views), lambda: known_together(hands, views, "no saying")):
            with self.assertRaises(NoViews) as caught:
                call()
            self.assertIs(type(caught.exception), NoViews)
            self.assertEqual(caught.exception.wrong, wrong)

    def test_no_views(self):
        for bad in (None, True, 5, "views", (), [], list(self.views), {}):
            self.told(bad, ("views",))

    def test_the_first_that_is_no_view(self):
        ann, bob = self.views
        for bad in (None, True, 5, "ann", (), ("ann",), ("dan", ()), ["ann", ()], ("ann", []), ("ann", (("see",),)),
                    ("ann", (("look", 0, ()),)), ("bob", (("read", "ann", True, (), ()),)),
                    ("cy", (("read", "ann", 1, (), (((), ()),)),))):
            self.assertIsNotNone(view_wrong(HANDS, bad))
            self.told((bad,), ("view", 0))
            self.told((bad, ann), ("view", 0))
            self.told((ann, bad, None), ("view", 1))
            self.told((bob, ann, ann, bad), ("view", 3))
        self.told(self.views[0], ("view", 0))

    def test_unlike_hands_rising(self):
        ann, bob = self.views
        for bad in ((bob, ann), (ann, ann), (ann, bob, bob), (ann, ("ann", ())), (("cy", ()), bob)):
            self.told(bad, ("views",))
        for good in ((ann,), (bob,), (ann, bob), (ann, bob, ("cy", ())), (bob, ("cy", ()))):
            self.told(good, None)

    def test_a_letter_that_is_another_one(self):
        ann, bob = self.views
        for other in (("ann", ann[1][:1] + (("write", "bob", ()),)),
                      ("ann", ann[1][:1] + (("write", "bob", ((0, ()),)),)),
                      ("ann", ann[1][:1] + (("read", "cy", 1, (), ()),) + ann[1][1:2])):
            self.told((other, bob), ("entry", "bob", 0))
        # An entry that bob needs not for what ann reads.
        self.told((ann, ("bob", bob[1] + (("read", "ann", 2, (), ()),))), ("entry", "bob", 2))
        self.told((("ann", ann[1] + (("write", "bob", ()),)), ("bob", bob[1] + (("read", "ann", 2, (), ()),))),
                  ("entry", "bob", 2))
        self.told((("ann", ann[1] + (("write", "bob", ()),)),
                   ("bob", bob[1] + (("read", "ann", 2, (("bob", 1),), ()),))), None)

    def test_the_first_entry_as_it_goes_on(self):
        # Bob's own is wrong, too; ann's comes first, as she goes on first.
        ann = ("ann", (("see", ()), ("write", "bob", ((0, ()),)), ("read", "bob", 1, (), ())))
        bob = ("bob", (("write", "ann", ()), ("read", "ann", 1, (), ())))
        self.told((ann, bob), ("entry", "bob", 1))
        ann = ("ann", ann[1][:2] + (("read", "bob", 1, (), ((None, ()),)),))
        self.told((ann, bob), ("entry", "ann", 2))

    def test_hands_that_wait_for_one_another(self):
        ann = ("ann", (("read", "bob", 1, (), ()), ("write", "bob", ()), ("see", ())))
        bob = ("bob", (("see", ()), ("read", "ann", 1, (), ()), ("write", "ann", ())))
        self.told((ann, bob), ("entry", "ann", 0))
        self.told((("ann", ()), bob), ("entry", "bob", 1))
        self.told((ann, ("bob", bob[1][:1])), ("entry", "ann", 0))
        # By cy's names: bob reads of a letter that ann writes behind what she reads of his.
        ann = ("ann", (("read", "cy", 1, (("bob", 1),), ()), ("write", "cy", ())))
        bob = ("bob", (("read", "cy", 1, (("ann", 1),), ()), ("write", "cy", ())))
        self.told((ann, bob), ("entry", "ann", 0))
        self.told((ann, ("bob", bob[1][1:])), None)

    def test_names_of_an_outer_hand_that_are_no_part_of_one_another(self):
        ann = ("ann", (("write", "cy", ()), ("read", "cy", 1, (("ann", 1),), ())))
        bob = ("bob", (("write", "cy", ()), ("read", "cy", 1, (("bob", 1),), ())))
        self.told((ann, bob), ("entry", "bob", 1))
        self.told((ann, ("bob", (bob[1][0], ("read", "cy", 1, (("ann", 1), ("bob", 1)), ())))), None)

    def test_an_outer_hand_that_read_what_is_not_written(self):
        ann = ("ann", (("read", "cy", 1, (("bob", 2),), ()),))
        self.told((ann, ("bob", (("write", "cy", ()), ("see", ())))), ("entry", "ann", 0))
        self.told((ann, ("bob", (("write", "cy", ()), ("write", "cy", ())))), None)

    def test_made_ahead_it_can_not_be_written_and_that_is_told_at_its_own_reading(self):
        begun = ["see bob 0 big red", "see bob 0 big old", "see bob 1 wet",
                 "write bob cy : 0 big red : 1 big old : 2 wet", "read cy bob 1", "write cy bob", "read bob cy 1",
                 "one bob 0 1", "write bob cy : 0", "write ann cy"]
        # For bob, cy's letter 2 tells of two things, as if his letter 2 weren't read; ann is told that it was.
        one = of(*begun, "read cy ann 1", "write cy bob : 0 : 1", "read cy bob 2", "write cy bob", "read bob cy 3",
                 "read bob cy 2")
        other = of(*begun, "read cy bob 2", "write cy ann", "read cy ann 1", "write cy ann", "read ann cy 1",
                   "read ann cy 2")
        bob = view_of(one, "bob")
        self.assertEqual(bob[1][8], ("read", "cy", 2, (("ann", 1), ("bob", 1)), ((("red",), ()), (("old",), ()))))
        self.told((view_of(other, "ann"), bob), ("entry", "bob", 8))
        self.told((view_of(other, "ann"), ("bob", bob[1][:8])), None)

    def test_made_ahead_what_fits_is_that_of_the_ground_it_tells_of(self):
        begun = ["see bob 0 old red", "see bob 1 tall", "see bob 2 big old", "write bob cy : 0 old red : 1 tall",
                 "write bob cy : 2 big old", "write ann cy"]
        # In the ground of bob's letter 1 alone one thing is old, in that of both letters two.
        one = of(*begun, "read cy bob 1", "read cy ann 1", "write cy bob", "write cy bob : 0", "read cy bob 2",
                 "write cy bob : 0 : 2", "read bob cy 3", "read bob cy 2")
        other = of(*begun, "read cy bob 1", "read cy bob 2", "write cy ann", "read ann cy 1")
        bob = view_of(one, "bob")
        self.assertEqual([entry[4] for entry in bob[1][5:]], [((("red",), ()), (("big",), ())), ((("old",), ()),)])
        self.told((view_of(other, "ann"), bob), ("entry", "bob", 6))
        self.told((view_of(other, "ann"), ("bob", bob[1][:6])), None)

    def test_no_hands_ahead_of_all_else(self):
        for bad in NO_HANDS:
            for views in (self.views, None, (5,)):
                for call in (lambda: together(bad, views), lambda: together_wrong(bad, views),
                             lambda: known_together(bad, views, None)):
                    with self.assertRaises(NoHands):
                        call()

    def test_views_of_other_hands(self):
        self.told(self.views, ("view", 0), ("ann", "cy"))
        self.told((("ann", ()), self.views[1]), ("view", 1), ("ann", "cy"))
        self.told(self.views, None, ("ann", "bob"))
        self.told(self.views, None, ALL)


class KnownTogether(unittest.TestCase):
    def setUp(self):
        # Ann told the same thing as new twice, and bob found the second of these to be what he saw to be tall.
        self.history = of("see ann 0 red", "write ann bob : 0 red", "write ann bob : 0 red", "see bob 0 tall",
                          "read bob ann 1", "read bob ann 2", "one bob 2 0", "write bob ann : 0 tall",
                          "see cy 0 old", "write cy ann : 0 old")
        self.views = views_of(self.history, "ann", "bob")

    def each(self, saying):
        """Whether ann knows it, whether bob does, and whether they know it together."""
        return (*[known(HANDS, view, saying) for view in self.views], known_together(HANDS, self.views, saying))

    def test_what_one_knows_what_only_both_know_and_what_none_knows(self):
        first, second, third = ("ann", "bob", 1, 0), ("ann", "bob", 2, 0), ("bob", "ann", 1, 0)
        for saying, told in (
                (("one", first, second), (True, False, True)), (("one", second, third), (False, True, True)),
                (("one", first, third), (False, False, True)), (("word", first, "tall"), (False, False, True)),
                (("word", first, "red"), (True, True, True)), (("word", first, "old"), (False, False, False)),
                (("wrote", "ann", "bob", 2), (True, True, True)), (("wrote", "bob", "ann", 1), (False, True, True)),
                (("read", "ann", "bob", 2), (False, True, True)), (("read", "bob", "ann", 1), (False, False, False)),
                (("wrote", "cy", "ann", 1), (False, False, False)),
                (("both", ("one", first, second), ("one", second, third)), (False, False, True)),
                (("either", ("wrote", "cy", "ann", 1), ("one", first, third)), (False, False, True)),
                (("knows", "ann", ("one", first, second)), (True, False, True)),
                (("knows", "bob", ("one", second, third)), (False, True, True)),
                (("knows", "bob", ("knows", "ann", ("word", first, "red"))), (False, True, True)),
                (("knows", "ann", ("one", first, third)), (False, False, False)),
                (("knows", "cy", ("word", first, "red")), (False, False, False))):
            self.assertEqual(self.each(saying), told, saying)

    def test_of_one_view_it_is_what_that_hand_knows(self):
        slow = by_chance(5, 60, HANDS)
        chance = Random(1)
        for hand in HANDS:
            for _ in range(20):
                saying = some_saying(chance, slow)
                view = slow.view(hand)
                self.assertIs(known_together(HANDS, (view,), saying), known(HANDS, view, saying))

    def test_by_names(self):
        self.assertIs(known_together(saying=("wrote", "ann", "bob", 1), views=self.views, hands=HANDS), True)

    def test_refusals_in_their_order(self):
        for bad, path in ((None, ()), (5, ()), ((), ()), (("one", ("ann", "bob", 1, 0), ("ann", "bob", True, 0)), ()),
                          (("knows", "ann", 5), (2,)), (("both", ("wrote", "dan", "ann", 1), 7), (1,))):
            with self.assertRaises(NoSaying) as caught:
                known_together(HANDS, self.views, bad)
            self.assertEqual(caught.exception.wrong, path)
            with self.assertRaises(NoViews) as caught:
                known_together(HANDS, self.views[::-1], bad)
            self.assertEqual(caught.exception.wrong, ("views",))
            with self.assertRaises(NoHands):
                known_together(HANDS[::-1], self.views[::-1], bad)


class ByChance(unittest.TestCase):
    """Views of histories made by chance, against a slow reading of point 70."""

    def test_views_of_one_history(self):
        for seed in range(50):
            slow = by_chance(seed, 70, ALL[:2 + seed % 4])
            for size in range(1, len(slow.hands) + 1):
                for inner in combinations(slow.hands, size):
                    with self.subTest(seed=seed, inner=inner):
                        self.check(slow, inner)

    def check(self, slow, inner):
        views = tuple(slow.view(hand) for hand in inner)
        self.assertIsNone(together_wrong(slow.hands, views))
        told = together(slow.hands, views)
        self.assertEqual(told, Together(slow.hands, views).history())
        self.assertIsNone(history_wrong(told))
        self.assertEqual(views_of(told, *inner), views)
        if len(inner) == 1:
            self.assertEqual(told, least_history(slow.hands, views[0]))

    def test_what_is_known_together_holds(self):
        found = Counter()
        for seed in range(30):
            slow = by_chance(seed, 60, ALL[:2 + seed % 4])
            chance = Random(seed)
            for _ in range(12):
                saying = some_saying(chance, slow)
                inner = sorted(chance.sample(slow.hands, 2))
                views = tuple(slow.view(hand) for hand in inner)
                told = known_together(slow.hands, views, saying)
                alone = [known(slow.hands, view, saying) for view in views]
                self.assertEqual(told, holds(together(slow.hands, views), saying))
                self.assertLessEqual(any(alone), told)
                self.assertLessEqual(told, holds(slow.history(), saying))
                found[told, any(alone)] += 1
        self.assertLessEqual({(True, True), (True, False), (False, False)}, {*found})

    def test_views_of_histories_that_part(self):
        found = Counter()
        for seed in range(40):
            hands = ALL[:3 + seed % 3]
            slow = by_chance(seed, 60, hands)
            fork = self.fork(slow, seed)
            chance = Random(seed)
            for inner in combinations(hands, 2):
                views = tuple(chance.choice((slow, fork)).view(hand) for hand in inner)
                found[self.judged(hands, views)] += 1
        self.assertLessEqual({"none", "otherwise", "waits"}, {*found})

    def fork(self, slow, seed):
        """Another history with the same first deeds."""
        chance = Random(seed + 1000)
        fork = Slow(slow.hands)
        for deed in slow.deeds[:40 + seed % 15]:
            fork.do(deed)
        things = [some_words(chance, WORDS, 4) for _ in range(6)]
        while len(fork.deeds) < len(slow.deeds):
            deed = some_deed(chance, fork, things)
            if fork.can(deed):
                fork.do(deed)
        return fork

    def judged(self, hands, views):
        """Judge views, and what is wrong with them, by the slow reading."""
        slow = Together(hands, views)
        self.assertEqual(together_wrong(hands, views), slow.wrong)
        if slow.wrong is None:
            told = together(hands, views)
            self.assertEqual(told, slow.history())
            self.assertIsNone(history_wrong(told))
            self.assertEqual(tuple(view_of(told, view[0]) for view in views), views)
            return "none"
        _, hand, k = slow.wrong
        writer, number = slow.views[hand][k][1:3]
        if (writer, hand, number) not in slow.told:
            return "waits"
        return "ahead" if slow.ahead else "otherwise"

    def test_names_that_are_bent(self):
        found = Counter()
        for seed in range(120):
            hands = ALL[:3 + seed % 3]
            slow = by_chance(seed, 60, hands)
            chance = Random(seed)
            for _ in range(4):
                inner = sorted(chance.sample(hands, 2))
                views = [slow.view(hand) for hand in inner]
                for k in (0, 1, 1):
                    view = bent_names(chance, slow, views[k], inner)
                    views[k] = view if view_wrong(hands, view) is None else views[k]
                found[self.judged(hands, tuple(views))] += 1
        self.assertLessEqual({"none", "otherwise", "waits", "ahead"}, {*found})


if __name__ == "__main__":
    unittest.main()
