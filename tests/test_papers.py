"""Points 33 to 35: papers that show that a saying is known, or that it isn't."""

import time
import unittest
from random import Random

from saidground.errors import NoHands, NoSaying, NoView
from saidground.histories import read_history
from saidground.papers import paper_of, paper_wrong
from saidground.sayings import holds, known
from saidground.views import least_history, view_of
from tests.helper import Alone, Least, by_chance, ground_of, public_file, slow_holds, some_saying

HANDS = ("ann", "bob", "cy")


def of(*rows):
    return read_history(["hands ann bob cy", *rows])


ROWS = ("see ann 0 red",                    # 0: card 0
        "see ann 1 old",                    # 1: card 1
        "write ann bob : 0 red : 1",        # 2
        "write ann bob : 0",                # 3
        "read bob ann 1", "read bob ann 2", "one bob 0 2", "look bob 0 wet", "look bob 1 big",
        "write bob ann : 0 wet : 1 big", "write cy bob", "write cy bob", "read bob cy 2", "write bob ann : 0",
        "write bob ann",
        "read ann bob 2",                   # 4: card 2, or a description
        "read ann bob 1",                   # 5
        "read ann bob 1",                   # 6
        "see ann 0 red tall",               # 7
        "look ann 1 red",                   # 8
        "one ann 0 0",                      # 9
        "one ann 1 1",                      # 10
        "write ann bob : 0")                # 11
HISTORY = of(*ROWS)
VIEW = view_of(HISTORY, "ann")
RED, OLD, AGAIN = ("ann", "bob", 1, 0), ("ann", "bob", 1, 1), ("ann", "bob", 2, 0)
WET, BIG, BARE = ("bob", "ann", 1, 0), ("bob", "ann", 1, 1), ("bob", "ann", 2, 0)


class Papers(unittest.TestCase):
    def check(self, saying, showing, view=VIEW):
        self.assertEqual(paper_of(HANDS, view, saying), ("yes", showing))
        self.assertIsNone(paper_wrong(HANDS, view, saying, ("yes", showing)))

    def test_the_view(self):
        self.assertEqual([entry[0] for entry in VIEW[1]], ["see", "see", "write", "write", "read", "read", "read",
                                                           "see", "look",
                                                           "one", "one", "write"])
        self.assertEqual(VIEW[1][4][2:], (2, (("ann", 1), ("ann", 2), ("cy", 2)), ((("red",), ()),)))
        self.assertEqual(VIEW[1][5][2:], (1, (("ann", 1), ("ann", 2)), ((("red",), ("wet",)), (None, ("big",)))))

    def test_wrote(self):
        for writer, reader, number, k in (("ann", "bob", 1, 2), ("ann", "bob", 2, 3), ("ann", "bob", 3, 11),
                                          ("bob", "ann", 1, 4),
                                          ("bob", "ann", 2, 4), ("cy", "bob", 1, 4), ("cy", "bob", 2, 4)):
            self.check(("wrote", writer, reader, number), ("entry", k))
        self.check(("wrote", "bob", "ann", 1), ("entry", 0), ("ann",
                                                              (("read", "bob", 2, (), ()), ("read", "bob", 1, (), ()))))

    def test_read(self):
        for writer, reader, number, k in (("bob", "ann", 1, 5), ("bob", "ann", 2, 4), ("ann", "bob", 1, 4),
                                          ("ann", "bob", 2, 4),
                                          ("cy", "bob", 2, 4)):
            self.check(("read", writer, reader, number), ("entry", k))

    def test_one_of_own_lines_needs_no_reasons(self):
        self.check(("one", RED, AGAIN), ("joins", ()))
        self.check(("one", OLD, OLD), ("joins", ()))
        self.check(("one", BIG, BIG), ("joins", ()))
        self.check(("one", WET, WET), ("joins", ()))

    def test_one_by_descriptions(self):
        self.check(("one", RED, WET), ("joins", ((5, 0),)))
        self.check(("one", BARE, RED), ("joins", ((4, 0),)))
        self.check(("one", BARE, WET), ("joins", ((4, 0), (5, 0))))

    def test_word(self):
        self.check(("word", RED, "red"), ("joins", (), 0))
        self.check(("word", AGAIN, "red"), ("joins", (), 0))
        self.check(("word", OLD, "old"), ("joins", (), 1))
        self.check(("word", OLD, "red"), ("joins", (), 8))
        self.check(("word", BIG, "big"), ("joins", (), (5, 1)))
        self.check(("word", WET, "wet"), ("joins", (), (5, 0)))
        self.check(("word", RED, "wet"), ("joins", ((5, 0),), (5, 0)))
        self.check(("word", BARE, "wet"), ("joins", ((4, 0), (5, 0)), (5, 0)))
        self.check(("word", BARE, "red"), ("joins", ((4, 0),), 0))

    def test_both_and_either(self):
        first, second, no = ("wrote", "ann", "bob", 1), ("one", RED, WET), ("read", "ann", "bob", 3)
        self.check(("both", first, second), (("entry", 2), ("joins", ((5, 0),))))
        self.check(("either", first, second), (0, ("entry", 2)))
        self.check(("either", second, first), (0, ("joins", ((5, 0),))))
        self.check(("either", no, second), (1, ("joins", ((5, 0),))))
        self.check(("either", second, no), (0, ("joins", ((5, 0),))))
        self.check(("both", ("either", no, first), ("both", second, first)),
                   ((1, ("entry", 2)), (("joins", ((5, 0),)), ("entry", 2))))

    def test_knows(self):
        # In ann's least history bob reads her two letters ahead of his first, and has four entries by his second.
        least = least_history(HANDS, VIEW)
        bob = view_of(least, "bob")
        self.assertEqual([entry[0] for entry in bob[1]],
                         ["read", "read", "look", "see", "write", "read", "write"])
        self.check(("knows", "bob", ("wrote", "ann", "bob", 2)), ("entry", 1))
        self.check(("knows", "bob", ("wrote", "ann", "bob", 1)), ("entry", 0))
        self.check(("knows", "bob", ("wrote", "cy", "bob", 1)), ("entry", 5))
        self.check(("knows", "bob", ("wrote", "bob", "ann", 1)), ("entry", 4))
        self.check(("knows", "bob", ("word", RED, "wet")), ("joins", (), 2))
        self.check(("knows", "bob", ("word", RED, "red")), ("joins", (), (0, 0)))
        self.check(("knows", "ann", ("one", RED, WET)), ("joins", ((5, 0),)))
        self.check(("knows", "bob", ("knows", "ann", ("wrote", "ann", "bob", 1))), ("entry", 2))
        self.check(("knows", "bob", ("both", ("wrote", "ann", "bob", 1), ("knows", "ann", ("wrote", "ann", "bob", 2)))),
                   (("entry", 0), ("entry", 4)))

    def test_not_known(self):
        for saying in (("wrote", "cy", "bob", 3), ("read", "cy", "bob", 1), ("one", RED, OLD), ("word", OLD, "wet"),
                       ("knows", "bob", ("one", RED, AGAIN)), ("one", BIG, OLD), ("one", RED, ("ann", "bob", 9, 9)),
                       ("both", ("wrote", "ann", "bob", 1), ("wrote", "ann", "cy", 1))):
            told = paper_of(saying=saying, view=VIEW, hands=HANDS)
            self.assertEqual(told, ("no", least_history(HANDS, VIEW)))
            self.assertIsNone(paper_wrong(thing=told, saying=saying, view=VIEW, hands=HANDS))
            self.assertFalse(known(HANDS, VIEW, saying))

    def test_reasons_are_left_out_from_the_last_on(self):
        see, tell = ("see", ()), ("write", "bob", tuple((k, ()) for k in range(4)))
        slots = [("ann", "bob", 1, k) for k in range(4)]
        ones = (("one", 0, 1), ("one", 2, 3), ("one", 1, 2), ("one", 0, 3), ("one", 0, 2))
        view = ("ann", (see,) * 4 + (tell,) + ones)
        for first, second, reasons in ((0, 1, (5,)), (2, 3, (6,)), (1, 2, (7,)), (0, 3, (5, 6, 7)), (0, 2, (5, 7)),
                                       (1, 3, (6, 7)), (3, 0, (5, 6, 7)), (3, 3, ())):
            self.check(("one", slots[first], slots[second]), ("joins", reasons), view)
        again = ("ann", (see,) * 4 + (tell,) + ones[3:4] + ones[:3] + ones[3:4])
        self.check(("one", slots[0], slots[3]), ("joins", (5,)), again)

    def test_a_reading_again_is_a_reason_too_but_the_first_one_stays(self):
        self.assertIsNone(paper_wrong(HANDS, VIEW, ("one", RED, WET), ("yes", ("joins", ((6, 0),)))))
        self.assertIsNone(paper_wrong(HANDS, VIEW, ("word", RED, "wet"), ("yes", ("joins", ((6, 0),), (6, 0)))))

    def test_the_first_spot_by_all_reasons_though_it_needs_more(self):
        # Card 1 tells the word first, but is one with the line by the last entry alone.
        view = ("ann", (("see", ()), ("see", ("red",)), ("write", "bob", ((0, ()),)), ("look", 0, ("red",)),
                        ("one", 1, 0)))
        self.check(("word", RED, "red"), ("joins", (4,), 1), view)

    def test_of_spots_of_one_letter_the_first_line(self):
        view = ("ann", (("read", "bob", 1, (), ((None, ("old",)), (None, ("red",)), (None, ("red",)))), ("one", 2, 1)))
        self.check(("word", ("bob", "ann", 1, 2), "red"), ("joins", (1,), (0, 1)), view)

    def test_refusals(self):
        for function, rest in ((paper_of, ()), (paper_wrong, (5,))):
            for bad in (None, ("ann",), ["ann", "bob"], True):
                with self.assertRaises(NoHands):
                    function(bad, 5, 5, *rest)
            for bad, told in ((5, ("view",)), (("ann", (("look", 0, ()),)), ("entry", 0))):
                with self.assertRaises(NoView) as caught:
                    function(HANDS, bad, 5, *rest)
                self.assertEqual(caught.exception.wrong, told)
            for bad, told in ((5, ()), (("knows", "ann", 5), (2,)), (("both", ("wrote", "ann", "bob", 1), ()), (2,))):
                with self.assertRaises(NoSaying) as caught:
                    function(HANDS, VIEW, bad, *rest)
                self.assertEqual(caught.exception.wrong, told)


class Wrong(unittest.TestCase):
    def yes(self, saying, showing, view=VIEW):
        return paper_wrong(HANDS, view, saying, ("yes", showing))

    def test_form(self):
        for saying in (("wrote", "ann", "bob", 1), ("wrote", "cy", "bob", 9)):
            for bad in (None, True, 5, "yes", (), ("yes",), ("no",), ["yes", ("entry", 2)], ("yes", ("entry", 2), ()),
                        ("no", HISTORY, ()), ("maybe", ("entry", 2)), (None, ()), (True, ()), (0, ()), (["yes"], ()),
                        (("no",), ())):
                self.assertEqual(paper_wrong(HANDS, VIEW, saying, bad), ("form",), bad)

    def test_no_history(self):
        saying = ("wrote", "cy", "bob", 3)
        for bad in (None, 5, (), HANDS, (HANDS, 5), (HANDS, (5,)), (HANDS, (("look", "ann", 0, ()),)), list(HISTORY),
                    (("ann", "bob"), ()), (HANDS + ("dan",), HISTORY[1]), (("ann", "bob", "dan"), ())):
            self.assertEqual(paper_wrong(HANDS, VIEW, saying, ("no", bad)), ("history",), bad)
            self.assertEqual(paper_wrong(HANDS, VIEW, ("wrote", "ann", "bob", 1), ("no", bad)), ("history",), bad)

    def test_no_of_another_view(self):
        saying = ("wrote", "cy", "bob", 3)
        for rows in ((), ROWS[:-1], ROWS + ("see ann 9",), ("see ann 0 red wet",) + ROWS[1:]):
            self.assertEqual(paper_wrong(HANDS, VIEW, saying, ("no", of(*rows))), ("view",))
            self.assertEqual(paper_wrong(HANDS, VIEW, ("wrote", "ann", "bob", 1), ("no", of())), ("view",))
        self.assertIsNone(paper_wrong(HANDS, VIEW, saying, ("no",
                                                            of(*ROWS, "see bob 9", "write cy ann", "write bob cy"))))

    def test_no_where_it_holds(self):
        saying = ("wrote", "cy", "bob", 3)
        self.assertIsNone(paper_wrong(HANDS, VIEW, saying, ("no", HISTORY)))
        self.assertEqual(paper_wrong(HANDS, VIEW, saying, ("no", of(*ROWS, "write cy bob"))), ("holds",))
        self.assertEqual(paper_wrong(HANDS, VIEW, ("read", "ann", "bob", 3), ("no", of(*ROWS, "read bob ann 3"))),
                         ("holds",))
        self.assertEqual(paper_wrong(HANDS, VIEW, ("wrote", "ann", "bob", 1), ("no", HISTORY)), ("holds",))
        self.assertEqual(paper_wrong(HANDS, VIEW, ("word", RED, "wet"), ("no", least_history(HANDS, VIEW))), ("holds",))
        # Bob knows more there than in ann's least history.
        saying = ("knows", "bob", ("one", RED, AGAIN))
        self.assertFalse(known(HANDS, VIEW, saying))
        self.assertTrue(holds(HISTORY, saying))
        self.assertEqual(paper_wrong(HANDS, VIEW, saying, ("no", HISTORY)), ("holds",))
        self.assertIsNone(paper_wrong(HANDS, VIEW, saying, ("no", least_history(HANDS, VIEW))))

    def test_parts_of_letters(self):
        for saying in (("wrote", "ann", "bob", 1), ("read", "ann", "bob", 1)):
            for bad in (None, 5, True, "entry", (), ("entry",), ("entry", 4, 4), ["entry", 4], ("entries", 4),
                        (4, "entry"),
                        ("entry", -1), ("entry", True), ("entry", None), ("entry", "4"), ("entry", (4,)),
                        ("entry", [4]),
                        ("joins", ()), (None, 4), (["entry"], 4)):
                self.assertEqual(self.yes(saying, bad), ("part", ()), bad)
                self.assertEqual(self.yes(("knows", "ann", saying), bad), ("part", (2,)), bad)

    def test_parts_of_lines(self):
        for bad in (None, 5, True, "joins", (), ("joins",), ("joins", (), ()), ["joins", ()], ("join", ()),
                    ("joins", []),
                    ("joins", None), ("joins", 5), ("joins", "5"), ("entry", 4), (None, ()), ((), "joins")):
            self.assertEqual(self.yes(("one", RED, WET), bad), ("part", ()), bad)
        for bad in (None, 5, True, "joins", (), ("joins",), ("joins", ()), ("joins", (), 0, 0), ["joins", (), 0],
                    ("joins", [], 0),
                    ("joins", None, 0), ("joins", 0, ()), ("entry", (), 0), ((), (), 0)):
            self.assertEqual(self.yes(("word", RED, "red"), bad), ("part", ()), bad)

    def test_parts_of_both_and_either(self):
        part, good = ("wrote", "ann", "bob", 1), ("entry", 2)
        for bad in (None, 5, True, "gg", (), (good,), (good, good, good), [good, good]):
            self.assertEqual(self.yes(("both", part, part), bad), ("part", ()), bad)
        for bad in (None, 5, True, "0g", (), (0,), (0, good, good), [0, good], (2, good), (-1, good), (True, good),
                    (False, good),
                    (None, good), ("0", good), (good, 0)):
            self.assertEqual(self.yes(("either", part, part), bad), ("part", ()), bad)
        self.assertIsNone(self.yes(("either", part, part), (1, good)))

    def test_paths_and_their_order(self):
        part, good, bad = ("wrote", "ann", "bob", 1), ("entry", 2), ("entry", 0)
        both = ("both", part, ("both", part, part))
        self.assertIsNone(self.yes(both, (good, (good, good))))
        self.assertEqual(self.yes(both, (bad, (bad, bad))), ("entry", (1,)))
        self.assertEqual(self.yes(both, (good, (bad, bad))), ("entry", (2, 1)))
        self.assertEqual(self.yes(both, (good, (good, bad))), ("entry", (2, 2)))
        self.assertEqual(self.yes(both, (good, bad)), ("part", (2, 1)))
        self.assertEqual(self.yes(both, (bad, 5)), ("entry", (1,)))
        self.assertEqual(self.yes(both, (good, 5)), ("part", (2,)))
        self.assertEqual(self.yes(("both", both, part), ((good, (good, bad)), 5)), ("entry", (1, 2, 2)))
        self.assertEqual(self.yes(("either", part, both), (1, (good, (good, bad)))), ("entry", (2, 2, 2)))
        self.assertEqual(self.yes(("either", both, part), (0, (good, (bad, good)))), ("entry", (1, 2, 1)))
        self.assertEqual(self.yes(("knows", "ann", ("knows", "ann", both)), (good, (bad, good))),
                         ("entry", (2, 2, 2, 1)))
        self.assertEqual(self.yes(("knows", "bob", ("either", part, part)), (0, 5)), ("part", (2, 1)))

    def entries(self, saying, view=VIEW):
        """The numbers of the entries that do."""
        found = []
        for k in range(len(view[1]) + 2):
            wrong = self.yes(saying, ("entry", k), view)
            self.assertIn(wrong, (None, ("entry", ())))
            if wrong is None:
                found.append(k)
        return found

    def test_entries(self):
        for saying, told in ((("wrote", "ann", "bob", 1), [2, 3, 4, 5, 6, 11]),
                             (("wrote", "ann", "bob", 2), [3, 4, 5, 6, 11]),
                             (("wrote", "ann", "bob", 3), [11]), (("wrote", "ann", "bob", 4), []),
                             (("wrote", "bob", "ann", 1), [4, 5, 6]), (("wrote", "bob", "ann", 2), [4]),
                             (("wrote", "bob", "ann", 3), []), (("wrote", "cy", "bob", 1), [4]),
                             (("wrote", "cy", "bob", 2), [4]),
                             (("wrote", "cy", "bob", 3), []), (("wrote", "bob", "cy", 1), []),
                             (("wrote", "ann", "ann", 1), []),
                             (("wrote", "ann", "cy", 1), []), (("wrote", "bob", "bob", 1), []),
                             (("read", "ann", "bob", 1), [4, 5, 6]), (("read", "ann", "bob", 2), [4, 5, 6]),
                             (("read", "ann", "bob", 3), []), (("read", "bob", "ann", 1), [5, 6]),
                             (("read", "bob", "ann", 2), [4]),
                             (("read", "cy", "bob", 1), []), (("read", "cy", "bob", 2), [4]),
                             (("read", "cy", "ann", 2), []),
                             (("read", "ann", "ann", 1), [])):
            self.assertEqual(self.entries(saying), told, saying)

    def test_entries_of_letters_to_other_hands(self):
        view = ("ann", (("write", "cy", ()), ("read", "cy", 1, (("ann", 1), ("bob", 2)), ()), ("write", "bob", ())))
        for saying, told in ((("wrote", "ann", "cy", 1), [0, 1]), (("wrote", "ann", "bob", 1), [2]),
                             (("wrote", "bob", "cy", 1), [1]),
                             (("read", "ann", "cy", 1), [1]), (("read", "bob", "cy", 2), [1]),
                             (("read", "bob", "cy", 1), []),
                             (("read", "ann", "bob", 1), [])):
            self.assertEqual(self.entries(saying, view), told, saying)

    def test_reasons(self):
        saying = ("one", RED, WET)
        for good in (((5, 0),), ((6, 0),), ((5, 0), (6, 0)), ((4, 0), (5, 0)), (9, ), ((4, 0), (5, 0), (6, 0), 9, 10),
                     ()):
            self.assertEqual(self.yes(saying, ("joins", good)), None if {(5, 0), (6, 0)} & {*good} else ("joins", ()),
                             good)
        for bad in ((5,), (0,), (2,), (4,), (12,), (99,), ((5, 1),), ((5, 2),), ((9, 0),), ((2, 0),), ((12, 0),),
                    (True,), (None,),
                    ("9",), ((5,),), ((5, 0, 0),), ([5, 0],), ((5, False),), ((True, 0),), (-3,), ((-7, 0),),
                    ((5, -2),), (((5, 0),),),
                    ((5, 0), (5, 0)), ((6, 0), (5, 0)), (9, (5, 0)), (10, 9), (9, 9), ((5, 0), 9, (6, 0)),
                    ((5, 0), None), ([],), ({},)):
            self.assertEqual(self.yes(saying, ("joins", bad)), ("reasons", ()), bad)
            self.assertEqual(self.yes(("word", RED, "red"), ("joins", bad, 0)), ("reasons", ()), bad)
            self.assertEqual(self.yes(("knows", "ann", ("one", RED, ("ann", "bob", 9, 9))), ("joins", bad)),
                             ("reasons", (2,)), bad)

    def test_true_is_no_one(self):
        view = ("ann", (("see", ()), ("one", 0, 0), ("write", "bob", ((0, ()),))))
        self.assertIsNone(self.yes(("one", RED, RED), ("joins", (1,)), view))
        self.assertEqual(self.yes(("one", RED, RED), ("joins", (True,)), view), ("reasons", ()))
        view = ("ann", (("see", ("red",)), ("see", ("red",)), ("write", "bob", ((1, ()),))))
        self.assertIsNone(self.yes(("word", RED, "red"), ("joins", (), 1), view))
        self.assertEqual(self.yes(("word", RED, "red"), ("joins", (), True), view), ("spot", ()))
        view = ("ann", (("see", ()), ("read", "bob", 1, (), ((None, ()), (None, ("red",))))))
        slot = ("bob", "ann", 1, 1)
        self.assertIsNone(self.yes(("word", slot, "red"), ("joins", (), (1, 1)), view))
        for spot in ((True, 1), (1, True), (True, True)):
            self.assertEqual(self.yes(("word", slot, "red"), ("joins", (), spot), view), ("spot", ()))

    def test_spots(self):
        saying = ("word", RED, "red")
        for spot, told in ((0, None), (7, ("joins", ())), (8, ("joins", ())), (1, ("spot", ())), (2, ("spot", ())),
                           (4, ("spot", ())),
                           (9, ("spot", ())), (12, ("spot", ())), (-12, ("spot", ())), ((5, 0), ("spot", ())),
                           ((4, 0), ("spot", ())),
                           ((0, 0), ("spot", ())), ((2, 0), ("spot", ())), ((12, 0), ("spot", ())),
                           (None, ("spot", ())),
                           (False, ("spot", ())), ("0", ("spot", ())), ((0,), ("spot", ())), ([0], ("spot", ())),
                           ((), ("spot", ())),
                           ([5, 0], ("spot", ()))):
            self.assertEqual(self.yes(saying, ("joins", (), spot)), told, spot)
        for spot, told in (((5, 0), None), ((6, 0), None), ((5, 1), ("spot", ())), ((5, 2), ("spot", ())),
                           ((5, -2), ("spot", ())),
                           ((4, 0), ("spot", ())), (5, ("spot", ()))):
            self.assertEqual(self.yes(("word", WET, "wet"), ("joins", (), spot)), told, spot)
            self.assertEqual(self.yes(("word", OLD, "wet"), ("joins", (), spot)), told or ("joins", ()), spot)

    def test_words_of_names_are_not_spots(self):
        self.assertEqual(self.yes(("word", WET, "red"), ("joins", ((5, 0),), (5, 0))), ("spot", ()))
        self.assertIsNone(self.yes(("word", WET, "red"), ("joins", ((5, 0),), 0)))

    def test_joins(self):
        for saying in (("one", RED, OLD), ("one", RED, ("ann", "bob", 1, 2)), ("one", ("ann", "bob", 4, 0), RED),
                       ("one", ("bob", "cy", 1, 0), ("bob", "cy", 1, 0)), ("one", BIG, OLD),
                       ("one", ("bob", "ann", 1, 2), RED),
                       ("one", ("bob", "ann", 3, 0), ("bob", "ann", 3, 0)),
                       ("one", ("ann", "ann", 1, 0), ("ann", "ann", 1, 0))):
            self.assertEqual(self.yes(saying, ("joins", ())), ("joins", ()), saying)
            self.assertEqual(self.yes(saying, ("joins", ((4, 0), (5, 0), (6, 0), 9, 10))), ("joins", ()), saying)
        self.assertEqual(self.yes(("one", RED, WET), ("joins", ())), ("joins", ()))
        self.assertEqual(self.yes(("one", RED, WET), ("joins", ((4, 0),))), ("joins", ()))
        self.assertEqual(self.yes(("one", BARE, WET), ("joins", ((5, 0),))), ("joins", ()))
        self.assertEqual(self.yes(("word", RED, "wet"), ("joins", (), (5, 0))), ("joins", ()))
        self.assertEqual(self.yes(("word", BARE, "wet"), ("joins", ((5, 0),), (6, 0))), ("joins", ()))
        self.assertEqual(self.yes(("word", ("ann", "bob", 1, 5), "red"), ("joins", (), 0)), ("joins", ()))
        self.assertEqual(self.yes(("word", OLD, "red"), ("joins", (), 0)), ("joins", ()))


class SlowReasons:
    """The reasons and spots of a view, by sets, as point 33 tells them."""

    def __init__(self, hands, view):
        self.view = view
        hand, entries = view
        self.alone = alone = Alone(hands, view)
        self.reasons, self.spots = {}, {}
        cards = 0
        for k, entry in enumerate(entries):
            if entry[0] == "see":
                self.spots[k, -1] = (cards, entry[1])
                cards += 1
            elif entry[0] == "look":
                self.spots[k, -1] = entry[1:]
            elif entry[0] == "one":
                self.reasons[k, -1] = {*entry[1:]}
            elif entry[0] == "read":
                if all(entry[1:3] != other[1:3] for other in entries[:k] if other[0] == "read"):
                    cards += len([line for line in entry[4] if line[0] is None])
                lots = public_file(alone.told, ground_of(alone.told, entry[1], hand, entry[3]), {})
                for i, (name, words) in enumerate(entry[4]):
                    slot = (entry[1], hand, entry[2], i)
                    self.spots[k, i] = (self.node(slot), words)
                    if name is not None:
                        meant = [other for slots in alone.fit(lots, name) for other in slots]
                        self.reasons[k, i] = {self.node(other) for other in meant + [slot]}

    def node(self, slot):
        hand = self.view[0]
        if slot not in self.alone.card_for[hand]:
            return None
        line = self.alone.told[slot[:3]][4][slot[3]]
        return self.alone.card_for[hand][slot] if slot[0] == hand or line[0] is None else slot

    def are_one(self, reasons, first, second):
        lot = {first}
        for _ in range(len(reasons) + 1):
            for reason in reasons:
                if self.reasons[reason] & lot:
                    lot = lot | self.reasons[reason]
        return second in lot

    def needed(self, first, second):
        kept = sorted(self.reasons)
        for reason in sorted(self.reasons)[::-1]:
            rest = [other for other in kept if other != reason]
            if self.are_one(rest, first, second):
                kept = rest
        return kept


def shown(spot):
    return spot[0] if spot[1] == -1 else spot


def slow_showing(hands, view, saying):
    """The showing of a known saying as point 34 tells it."""
    kind, *rest = saying
    hand, entries = view
    if kind == "knows":
        return slow_showing(hands, Least(hands, view).view(rest[0]), rest[1])
    if kind == "both":
        return tuple(slow_showing(hands, view, part) for part in rest)
    if kind == "either":
        side = 0 if slow_holds(Least(hands, view), rest[0]) else 1
        return side, slow_showing(hands, view, rest[side])
    if kind in ("wrote", "read"):
        # The first beginning of the view in which it holds ends with the first entry that does.
        return "entry", [slow_holds(Least(hands, (hand, entries[:k + 1])),
                                    saying) for k in range(len(entries))].index(True)
    reasons = SlowReasons(hands, view)
    node = reasons.node(rest[0])
    if kind == "one":
        return "joins", tuple(shown(reason) for reason in reasons.needed(node, reasons.node(rest[1])))
    spot = [spot for spot in sorted(reasons.spots) if rest[1] in reasons.spots[spot][1] and
            reasons.are_one(sorted(reasons.reasons), node, reasons.spots[spot][0])][0]
    return "joins", tuple(shown(reason) for reason in reasons.needed(node, reasons.spots[spot][0])), shown(spot)


class ByChance(unittest.TestCase):
    def test_against_a_slow_reading(self):
        told = {}
        for seed in range(60):
            slow = by_chance(seed, 36)
            chance = Random(seed)
            for _ in range(12):
                view = slow.view(chance.choice(slow.hands))
                saying = some_saying(chance, slow, 3)
                paper = paper_of(slow.hands, view, saying)
                least = Least(slow.hands, view)
                if slow_holds(least, saying):
                    self.assertEqual(paper, ("yes", slow_showing(slow.hands, view, saying)), (seed, saying))
                else:
                    self.assertEqual(paper, ("no", least.history()))
                self.assertIsNone(paper_wrong(slow.hands, view, saying, paper))
                told[paper[0], saying[0]] = True
        self.assertEqual(len(told), 14)

    def test_one_and_word_by_many_reasons(self):
        most = 0
        for seed in range(60):
            slow = by_chance(seed, 70)
            for hand in slow.hands:
                view = slow.view(hand)
                slots = sorted(slow.card_for[hand])
                chance = Random(seed)
                for _ in range(min(6, len(slots))):
                    first = chance.choice(slots)
                    lot = slow.lot(hand, slow.card_for[hand][first])
                    second = chance.choice([slot for slot in slots if slow.card_for[hand][slot] in lot[0]])
                    sayings = [("one", first, second)] + [("word", first, word) for word in sorted(lot[1])[:1]]
                    for saying in sayings:
                        showing = slow_showing(slow.hands, view, saying)
                        self.assertEqual(paper_of(slow.hands, view, saying), ("yes", showing))
                        self.bend(slow.hands, view, saying, showing)
                        most = max(most, len(showing[1]))
        self.assertGreater(most, 2)

    def bend(self, hands, view, saying, showing):
        """Without any one of its reasons it doesn't show it."""
        for k in range(len(showing[1])):
            bent = ("joins", showing[1][:k] + showing[1][k + 1:], *showing[2:])
            self.assertEqual(paper_wrong(hands, view, saying, ("yes", bent)), ("joins", ()))


class Soon(unittest.TestCase):
    def test_of_a_long_talk(self):
        rows = ["see ann 0 red", "see ann 1 old"]
        for number in range(1, 21):
            rows += ["see ann 0 red", f"one ann {number} {number + 1}" if number > 1 else "one ann 0 2",
                     f"write ann bob : {number + 1} red : 1 old", f"read bob ann {number}",
                     "write bob ann : 0 : 1", f"read ann bob {number}"]
        view = view_of(of(*rows), "ann")
        start = time.monotonic()
        for saying in (("one", RED, ("bob", "ann", 20, 0)), ("word", ("bob", "ann", 20, 1), "old")):
            paper = paper_of(HANDS, view, saying)
            self.assertEqual(paper[0], "yes")
            self.assertIsNone(paper_wrong(HANDS, view, saying, paper))
        self.assertLess(time.monotonic() - start, 20)


if __name__ == "__main__":
    unittest.main()
