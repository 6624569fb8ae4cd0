"""Points 20 to 23: views, least histories, what is wrong with a view, and where two part."""

import time
import unittest
from random import Random

from saidground.errors import NoHand, NoHands, NoHistory, NoView
from saidground.histories import history_wrong, printed, read_history
from saidground.views import least_history, parted, view_of, view_wrong
from tests.helper import Least, bent, by_chance, slow_wrong

HANDS = ("ann", "bob", "cy")
NO_HANDS = (None, 5, True, "ann", (), ("ann",), ["ann", "bob"], ("bob", "ann"), ("ann", "ann"), ("ann", 5),
            ("a", "b", "c", "d", "e", "f"), ("ann", "Bob"))


def of(*rows):
    return read_history(["hands ann bob cy", *rows])


def least(view, hands=HANDS):
    """The least history's rows, without the hands'."""
    return printed(least_history(hands, view))[1:]


class Views(unittest.TestCase):
    def test_each_kind_of_entry(self):
        history = of("see bob 7 wet", "see ann 3 big red", "look ann 0 old", "see ann 3", "one ann 0 1",
                     "write ann bob : 1 big", "read bob ann 1", "write bob ann : 1 big",
                     "read ann bob 1", "read ann bob 1")
        told = ("read", "bob", 1, (("ann", 1),), (((), ("big",)),))
        self.assertEqual(view_of(history, "ann"), ("ann", (
            ("see", ("big", "red")), ("look", 0, ("old",)), ("see", ()), ("one", 0, 1),
            ("write", "bob", ((1, ("big",)),)), told, told)))
        self.assertEqual(view_of(hand="bob", history=history), ("bob", (
            ("see", ("wet",)), ("read", "ann", 1, (), ((None, ("big",)),)), ("write", "ann", ((1, ("big",)),)))))
        self.assertEqual(view_of(history, "cy"), ("cy", ()))

    def test_deeds_of_others_and_letters_on_the_way_change_nothing(self):
        rows = ("see ann 3 red", "write ann bob : 0 red", "read bob ann 1", "write bob ann", "read ann bob 1")
        more = ("see bob 3 red tall", "see cy 3 old", *rows[:3], "write cy ann : 0", "write bob cy : 0 tall",
                *rows[3:], "write bob ann : 0 red", "read cy bob 1", "look bob 0 wet")
        self.assertEqual(view_of(of(*rows), "ann"), view_of(of(*more), "ann"))

    def test_no_things(self):
        self.assertEqual(view_of(of("see ann 3 red", "see ann 3"), "ann"),
                         view_of(of("see ann 5 red", "see ann 9"), "ann"))

    def test_refusals(self):
        for bad, wrong in ((5, ("history",)), ((("ann",), ()), ("hands",)),
                           ((HANDS, (("see", "ann", 0),)), ("deed", 0)),
                           ((HANDS, (("look", "ann", 0, ()),)), ("done", 0))):
            with self.assertRaises(NoHistory) as caught:
                view_of(bad, "nobody")
            self.assertEqual(caught.exception.wrong, wrong)
        for bad in ("dan", "", None, 5, True, ["ann"], ("ann",), "Ann"):
            with self.assertRaises(NoHand):
                view_of(of(), bad)


class LeastHistories(unittest.TestCase):
    def check(self, history, hand, rows):
        view = view_of(history, hand)
        told = least_history(history[0], view)
        self.assertEqual(printed(told)[1:], list(rows))
        self.assertIsNone(history_wrong(told))
        self.assertEqual(told[0], history[0])
        self.assertEqual(view_of(told, hand), view)
        self.assertEqual(least_history(told[0], view_of(told, hand)), told)

    def test_nothing(self):
        self.check(of("see ann 0", "write ann bob"), "bob", [])
        self.assertEqual(least_history(view=("bob", ()), hands=HANDS), (HANDS, ()))

    def test_own_deeds_and_things_by_lots(self):
        self.check(of("see ann 9 red", "see ann 4", "see ann 9 old", "look ann 1 wet", "see ann 9", "one ann 2 0",
                      "one ann 2 2", "write ann bob : 2 red : 1"), "ann",
                   ["see ann 0 red", "see ann 1", "see ann 0 old", "look ann 1 wet", "see ann 2", "one ann 2 0",
                    "one ann 2 2", "write ann bob : 2 red : 1"])

    def test_new_lines_are_seen_by_their_writer(self):
        self.check(of("see bob 5 big red", "see bob 6", "see ann 5", "write bob ann : 1 : 0 red", "read ann bob 1",
                      "one ann 0 2"), "ann",
                   ["see ann 0", "see bob 1", "see bob 0 red", "write bob ann : 0 : 1 red", "read ann bob 1",
                    "one ann 0 2"])

    def test_lost_letters_are_written_without_lines(self):
        rows = ["see bob 5 red", "write bob ann : 0 red", "write bob ann : 0", "write bob ann : 0 red"]
        self.check(of(*rows, "read ann bob 3"), "ann",
                   ["write bob ann", "write bob ann", "see bob 0 red", "write bob ann : 0 red", "read ann bob 3"])

    def test_late_letters_are_written_as_they_will_be_read(self):
        self.check(of("see bob 5 red", "see bob 6 old", "write bob ann : 0 red", "write bob ann",
                      "write bob ann : 1 old",
                      "read ann bob 3", "see ann 1", "read ann bob 1"), "ann",
                   ["see bob 2 red", "write bob ann : 0 red", "write bob ann", "see bob 0 old", "write bob ann : 1 old",
                    "read ann bob 3", "see ann 1", "read ann bob 1"])

    def test_letters_of_lesser_numbers_are_there_when_a_greater_one_is_read(self):
        self.check(of("write bob ann", "write bob ann", "read ann bob 2", "see ann 0", "read ann bob 1"), "ann",
                   ["write bob ann", "write bob ann", "read ann bob 2", "see ann 0", "read ann bob 1"])

    def test_read_twice(self):
        self.check(of("write bob ann", "read ann bob 1", "read ann bob 1"), "ann",
                   ["write bob ann", "read ann bob 1", "read ann bob 1"])

    def test_letters_of_third_hands(self):
        rows = ["write cy bob", "write cy bob", "write cy bob", "write ann bob", "see cy 4 old", "write cy bob : 0",
                "write bob cy", "write bob cy", "read bob cy 3", "read bob ann 1", "read cy bob 2", "write bob ann",
                "write cy ann : 0 old"]
        self.check(of(*rows, "read ann bob 1", "read ann cy 1"), "ann",
                   ["write bob cy", "write bob cy", "write cy bob", "write cy bob", "write cy bob", "write ann bob",
                    "read bob ann 1", "read bob cy 3", "write bob ann", "read ann bob 1", "read cy bob 2",
                    "see cy 0 old", "write cy ann : 0 old", "read ann cy 1"])

    def test_third_hands_by_writer_then_reader(self):
        history = of("write ann bob", "write ann cy", "write bob cy", "read bob ann 1", "read cy ann 1",
                     "read cy bob 1",
                     "write cy bob", "read bob cy 1", "write bob ann", "write cy ann", "read ann bob 1",
                     "read ann cy 1")
        self.check(history, "ann", ["write bob cy", "write cy bob", "write ann bob", "write ann cy", "read bob ann 1",
                                    "read bob cy 1", "write bob ann", "read ann bob 1", "read cy ann 1",
                                    "read cy bob 1",
                                    "write cy ann", "read ann cy 1"])

    def test_descriptions_find_cards_to_be_one_and_look_at_words(self):
        history = of("see ann 0 red", "write ann bob : 0 red", "write ann bob : 0", "read bob ann 2", "read bob ann 1",
                     "one bob 1 0", "look bob 0 big wet", "write bob ann : 0 big red", "read ann bob 1")
        self.check(history, "ann", [
            "see ann 0 red", "write ann bob : 0 red", "write ann bob : 0", "read bob ann 1", "read bob ann 2",
            "one bob 0 1", "look bob 0 big", "write bob ann : 0 big red", "read ann bob 1"])

    def test_the_least_card_for_slots_that_fit_is_not_the_least_of_its_lot(self):
        # What is old is bob's card 1 alone; by his first letter it is one with card 0.
        begun = ["see ann 0 big red", "see ann 0 big old", "see ann 1 wet",
                 "write ann bob : 0 big red : 1 big old : 2 wet", "see ann 2 big", "write ann bob : 3 big"]
        history = of(*begun, "read bob ann 1", "one bob 1 0", "write bob ann : 1", "read bob ann 2",
                     "write bob ann : 0",
                     "read ann bob 1", "read ann bob 2")
        self.assertEqual([entry[4] for entry in view_of(history, "ann")[1][-2:]],
                         [((("big",), ()),), ((("old",), ()),)])
        self.check(history, "ann", [
            *begun, "read bob ann 1", "one bob 0 1", "write bob ann : 0", "read ann bob 1", "read bob ann 2",
            "write bob ann : 1", "read ann bob 2"])

    def test_two_hands_alone(self):
        history = read_history(["hands ann bob", "see ann 2 red", "write ann bob : 0 red", "read bob ann 1"])
        self.check(history, "bob", ["see ann 0 red", "write ann bob : 0 red", "read bob ann 1"])

    def test_of_any_length(self):
        rows = ["see ann 0 red", *["look ann 0 old"] * 300, "write ann bob : 0 red", "read bob ann 1",
                "write bob ann : 0",
                "read ann bob 1"]
        self.check(of(*rows), "ann", rows)
        told = least_history(HANDS, view_of(of(*rows), "ann"))
        self.assertIsNone(view_wrong(HANDS, view_of(told, "ann")))

    def test_refusals(self):
        for bad in NO_HANDS:
            with self.assertRaises(NoHands):
                least_history(bad, "no view")
        for bad, wrong in ((5, ("view",)), (("dan", ()), ("view",)), (("ann", (("look", 0, ()),)), ("entry", 0))):
            with self.assertRaises(NoView) as caught:
                least_history(HANDS, bad)
            self.assertEqual(caught.exception.wrong, wrong)


FIRST = ("read", "bob", 1, (), ((None, ("red",)),))
SEE = ("see", ("old", "red"))
TELL = ("write", "bob", ((0, ("red",)),))


def wrong(*entries, hand="ann", hands=HANDS):
    return view_wrong(hands, (hand, entries))


class Forms(unittest.TestCase):
    def test_no_hands_ahead_of_all(self):
        for bad in NO_HANDS:
            with self.assertRaises(NoHands):
                view_wrong(bad, 5)

    def test_no_view(self):
        for bad in (None, True, 5, "ann", (), ("ann",), ("ann", (), ()), ["ann", ()], ("ann", []), ("ann", "see"),
                    ("ann", None), ("dan", ()), (None, ()), (True, ()), (["ann"], ()), (("ann",), ()), ("", ())):
            self.assertEqual(view_wrong(hands=HANDS, thing=bad), ("view",), bad)

    def test_no_entry_of_any_form(self):
        for bad in (None, 5, "see", (), ("see",), ["see", ()], ("saw", ()), ("see", (), ()), (5, ()), (None, ()),
                    (("see",), ()), (["see"], ()), ("look", ()), ("look", 0), ("look", 0, (), ()), ("one", 0),
                    ("one", 0, 0, 0), ("write", "bob"), ("write", "bob", (), ()), ("write", ()), ("read", "bob", 1),
                    ("read", "bob", 1, ()), ("read", "bob", 1, (), (), ()), ("", 0, 0), (True, 0, 0),
                    ("see", "ann", 0, ()),
                    ["look", 0, ()], ["read", "bob", 1, (), ()], ("reads", "bob", 1, (), ()), (0, "bob", 1, (), ())):
            self.assertEqual(wrong(bad), ("view",), bad)
            self.assertEqual(wrong(("see", ()), bad), ("view",), bad)

    def test_words(self):
        for bad in (None, 5, "red", ["red"], ("red", "old"), ("red", "red"), ("Red",), ("",), (5,), (None,),
                    (("red",),),
                    ("toolongaa",), True):
            for entry in (("see", bad), ("look", 0, bad), ("write", "bob", ((0, bad),)),
                          ("read", "bob", 1, (), ((None, bad),))):
                self.assertEqual(wrong(("see", ("red",)), entry), ("view",), entry)
        for bad in (5, "red", ["red"], ("red", "old"), ("red", "red"), ("Red",), True, False, 0, ""):
            self.assertEqual(wrong(("read", "bob", 1, (), ((bad, ()),))), ("view",), bad)

    def test_cards(self):
        for bad in (None, True, False, -1, "0", (0,), [0]):
            for entry in (("look", bad, ()), ("one", bad, 0), ("one", 0, bad), ("write", "bob", ((bad, ()),))):
                self.assertEqual(wrong(("see", ()), ("see", ()), entry), ("view",), entry)

    def test_hands_of_entries(self):
        for bad in ("dan", "", None, 5, True, ["bob"], ("bob",)):
            for entry in (("write", bad, ()), ("read", bad, 1, (), ()), ("read", "bob", 1, ((bad, 1),), ())):
                self.assertEqual(wrong(entry), ("view",), entry)
        self.assertEqual(wrong(("write", "cy", ()), hands=("ann", "bob")), ("view",))
        self.assertEqual(wrong(("read", "bob", 1, (("cy", 1),), ()), hands=("ann", "bob")), ("view",))

    def test_lines(self):
        for bad in (None, [], "", 5, (0, ()), ((0,),), ((0, (), ()),), ([0, ()],), (None,), ((),)):
            self.assertEqual(wrong(("see", ()), ("write", "bob", bad)), ("view",), bad)
        for bad in (None, [], "", 5, (None, ()), ((None,),), ((None, (), ()),), ([None, ()],), (None,), ((0, ()),)):
            self.assertEqual(wrong(("read", "bob", 1, (), bad)), ("view",), bad)

    def test_names(self):
        for bad in (None, [], "", 5, ("cy", 1), (("cy",),), (("cy", 1, 1),), (["cy", 1],), (("cy", 2), ("cy", 1)),
                    (("cy", 1), ("cy", 1)), (None,), ((1, "cy"),), (("cy", 1), ("ann", 1))):
            self.assertEqual(wrong(("read", "bob", 1, bad, ())), ("view",), bad)

    def test_numbers(self):
        for bad in (0, 61, 100, -1, True, False, None, "1", (1,), [1]):
            self.assertEqual(wrong(("read", "bob", bad, (), ())), ("view",), bad)
            self.assertEqual(wrong(("read", "bob", 1, (("cy", bad),), ())), ("view",), bad)
        for good in (1, 2, 59, 60):
            self.assertIsNone(wrong(("read", "bob", good, (), ())))
            self.assertIsNone(wrong(("read", "bob", good, (("cy", good),), ())))
            self.assertEqual(least(("ann", (("read", "bob", good, (("cy", good),), ()),))),
                             ["write cy bob"] * good + ["write bob ann"] * (good - 1) +
                             [f"read bob cy {good}", "write bob ann", f"read ann bob {good}"])

    def test_all_forms_ahead_of_what_can_not_be(self):
        self.assertEqual(wrong(("look", 0, ()), ("look", True, ())), ("view",))
        self.assertEqual(wrong(("look", 0, ()), ("look", 1, ())), ("entry", 0))


class Entries(unittest.TestCase):
    def test_views(self):
        for entries in ((), (SEE,), (SEE, TELL), (FIRST,), (FIRST, FIRST), (SEE, SEE, ("one", 1, 0), ("one", 0, 0)),
                        (SEE, ("look", 0, ("wet",)), ("write", "cy", ((0, ("wet",)),)))):
            self.assertIsNone(wrong(*entries), entries)

    def test_cards_that_are_not_there(self):
        for bad in (("look", 1, ()), ("one", 0, 1), ("one", 1, 0), ("write", "bob", ((1, ()),))):
            self.assertEqual(wrong(bad), ("entry", 0), bad)
            self.assertEqual(wrong(SEE, bad), ("entry", 1), bad)
            self.assertIsNone(wrong(SEE, SEE, bad), bad)
            self.assertIsNone(wrong(SEE, FIRST, bad), bad)
            self.assertEqual(wrong(SEE, TELL, bad, SEE), ("entry", 2), bad)

    def test_lines_that_can_not_be_written(self):
        self.assertEqual(wrong(SEE, ("write", "bob", ((0, ("wet",)),))), ("entry", 1))
        self.assertEqual(wrong(SEE, ("write", "bob", ((0, ()), (0, ())))), ("entry", 1))
        both = ("write", "bob", ((0, ()), (1, ())))
        self.assertIsNone(wrong(SEE, SEE, both))
        self.assertEqual(wrong(SEE, SEE, ("one", 0, 1), both), ("entry", 3))

    def test_to_and_from_itself(self):
        self.assertEqual(wrong(SEE, ("write", "ann", ())), ("entry", 1))
        self.assertEqual(wrong(SEE, ("read", "ann", 1, (), ())), ("entry", 1))
        self.assertEqual(wrong(("write", "bob", ()), ("read", "ann", 1, (("bob", 1),), ())), ("entry", 1))

    def test_names_that_tell_of_the_writers_own_letters(self):
        self.assertEqual(wrong(FIRST, ("read", "bob", 2, (("bob", 1),), ())), ("entry", 1))
        self.assertEqual(wrong(("read", "cy", 2, (("bob", 1), ("cy", 1)), ())), ("entry", 0))

    def test_names_that_tell_of_letters_not_written(self):
        told = ("read", "bob", 1, (("ann", 1),), ())
        self.assertEqual(wrong(told), ("entry", 0))
        self.assertEqual(wrong(("write", "cy", ()), told), ("entry", 1))
        self.assertIsNone(wrong(("write", "bob", ()), told))
        self.assertEqual(wrong(told, ("write", "bob", ())), ("entry", 0))
        self.assertEqual(wrong(("write", "bob", ()), ("read", "bob", 1, (("ann", 1), ("ann", 2)), ())), ("entry", 1))
        self.assertIsNone(wrong(("write", "bob", ()), ("write", "bob", ()), ("read", "bob", 1, (("ann", 2),), ())))

    def test_read_again_and_told_otherwise(self):
        for other in (("read", "bob", 1, (), ()), ("read", "bob", 1, (), ((None, ()),)),
                      ("read", "bob", 1, (("cy", 1),), ((None, ("red",)),))):
            self.assertEqual(wrong(FIRST, SEE, other), ("entry", 2))
            self.assertEqual(wrong(FIRST, FIRST, other), ("entry", 2))
        self.assertIsNone(wrong(FIRST, SEE, FIRST))
        self.assertIsNone(wrong(FIRST, ("read", "cy", 1, (), ((None, ()),))))

    def test_names_beside_those_of_lesser_numbers(self):
        base = (("write", "bob", ()), ("write", "bob", ()), ("read", "bob", 2, (("ann", 1), ("cy", 1)), ()))
        for names, good in (((("ann", 1), ("cy", 1)), True), ((("ann", 1), ("ann", 2), ("cy", 1)), True),
                            ((("ann", 1), ("cy", 1), ("cy", 2)), True), ((("ann", 1),), False), ((("cy", 1),), False),
                            ((("ann", 2), ("cy", 1)), False), ((("ann", 1), ("cy", 2)), False), ((), False)):
            self.assertEqual(wrong(*base, ("read", "bob", 3, names, ())), None if good else ("entry", 3), names)
            self.assertEqual(wrong(*base, ("read", "bob", 7, names, ())), None if good else ("entry", 3), names)
            self.assertIsNone(wrong(*base, ("read", "cy", 3, tuple(name for name in names if name[0] == "bob"), ())))

    def test_names_beside_those_of_greater_numbers(self):
        base = (("write", "bob", ()), ("read", "bob", 3, (("ann", 1), ("cy", 1)), ()), ("write", "bob", ()))
        for names, good in (((("ann", 1), ("cy", 1)), True), ((("ann", 1),), True), ((("cy", 1),), True), ((), True),
                            ((("ann", 2), ("cy", 1)), False), ((("cy", 2),), False), ((("ann", 2),), False)):
            self.assertEqual(wrong(*base, ("read", "bob", 2, names, ())), None if good else ("entry", 3), names)
        self.assertEqual(wrong(*base, ("read", "bob", 1, (("ann", 1),), ()), ("read", "bob", 2, (("cy", 1),), ())),
                         ("entry", 4))

    def test_a_description_that_nothing_fits(self):
        for name in ((), ("red",)):
            self.assertEqual(wrong(SEE, TELL, ("read", "bob", 1, (), ((name, ()),))), ("entry", 2))
        self.assertEqual(wrong(SEE, TELL, ("read", "bob", 1, (("ann", 1),), ((("old",), ()),))), ("entry", 2))
        self.assertIsNone(wrong(SEE, TELL, ("read", "bob", 1, (("ann", 1),), (((), ()),))))

    def test_a_name_that_is_not_the_least(self):
        self.assertEqual(wrong(SEE, TELL, ("read", "bob", 1, (("ann", 1),), ((("red",), ()),))), ("entry", 2))
        both = ("write", "bob", ((0, ("big", "red")), (1, ("big", "wet"))))
        sees = (("see", ("big", "red")), ("see", ("big", "wet")), both)
        for name, good in ((("red",), True), (("wet",), True), (("big", "red"), False), (("big", "wet"), False)):
            entry = ("read", "bob", 1, (("ann", 1),), ((name, ()),))
            self.assertEqual(wrong(*sees, entry), None if good else ("entry", 3), name)

    def test_two_lines_of_one_thing(self):
        both = ("write", "bob", ((0, ("red",)), (1, ("wet",))))
        sees = (("see", ("red",)), ("see", ("wet",)), both)
        for lines, good in ((((("red",), ()), (("wet",), ())), True), (((("red",), ()), (("red",), ())), False),
                            ((((), ()),), True), ((((), ()), (("red",), ())), False), ((((), ()), (None, ())), True)):
            self.assertEqual(wrong(*sees, ("read", "bob", 1, (("ann", 1),), lines)), None if good else ("entry", 3),
                             lines)

    def test_a_letter_of_a_lesser_number_by_which_one_read_ahead_had_a_lesser_name(self):
        sees = (("see", ("red",)), ("see", ("wet",)), ("write", "bob", ((0, ("red",)), (1, ("wet",)))))
        names = (("ann", 1),)
        ahead = ("read", "bob", 2, names, ((("red",), ()),))
        for lines, good in ((((("red",), ()),), True), (((("wet",), ()),), True), ((((), ()),), False), ((), True),
                            (((None, ()),), True)):
            self.assertEqual(wrong(*sees, ahead, ("read", "bob", 1, names, lines)), None if good else ("entry", 4),
                             lines)
        both = ("read", "bob", 2, names, ((("red",), ()), (("wet",), ())))
        self.assertEqual(wrong(*sees, both, ("read", "bob", 1, names, (((), ()),))), ("entry", 4))
        self.assertEqual(wrong(*sees, ("read", "bob", 1, names, (((), ()),)), both), ("entry", 4))

    def test_a_beginning_is_a_view(self):
        history = of("see ann 0 red", "write ann bob : 0 red", "read bob ann 1", "see bob 1 old",
                     "write bob ann : 0 : 1 old",
                     "write bob cy : 0", "write bob ann : 1", "read ann bob 2", "read ann bob 1",
                     "write ann bob : 1 : 2")
        for hand in HANDS:
            entries = view_of(history, hand)[1]
            for many in range(len(entries) + 1):
                self.assertIsNone(wrong(*entries[:many], hand=hand))

    def test_the_first_that_can_not_be(self):
        good = (SEE, TELL, ("read", "bob", 1, (("ann", 1),), (((), ()),)), SEE, FIRST)
        for k in range(4):
            self.assertEqual(wrong(*good[:k], ("look", 99, ()), *good[k:4], ("look", 99, ())), ("entry", k))
        self.assertEqual(wrong(*good), ("entry", 4))


class Long(unittest.TestCase):
    def talk(self, many):
        rows = ["see ann 0 red", "see ann 1 old", "see ann 2 red tall"]
        for number in range(1, many + 1):
            rows += [f"see ann {number + 2} red", f"write ann bob : 0 red : 1 old : 2 tall : {number + 2} red",
                     f"read bob ann {number}", "write bob ann : 0 red : 1 old : 2", f"read ann bob {number}"]
        return of(*rows)

    def test_a_long_view_in_good_time(self):
        history = self.talk(40)
        start = time.monotonic()
        for hand in ("ann", "bob"):
            view = view_of(history, hand)
            self.assertIsNone(view_wrong(HANDS, view))
            self.assertEqual(view_of(least_history(HANDS, view), hand), view)
            entries = view[1]
            self.assertEqual(wrong(*entries, ("look", 999, ()), hand=hand), ("entry", len(entries)))
        self.assertLess(time.monotonic() - start, 20)


class ByChance(unittest.TestCase):
    def test_least_histories_against_a_slow_reading(self):
        for seed in range(60):
            slow = by_chance(seed, 45)
            for hand in slow.hands:
                view = view_of(slow.history(), hand)
                self.assertEqual(view, slow.view(hand))
                told = least_history(slow.hands, view)
                self.assertEqual(told, Least(slow.hands, view).history())
                self.assertIsNone(history_wrong(told))
                self.assertEqual(view_of(told, hand), view)

    def test_what_is_bent_against_a_slow_reading(self):
        told = {True: 0, False: 0}
        for seed in range(60):
            slow = by_chance(seed, 30)
            chance = Random(seed)
            for hand in slow.hands:
                for _ in range(6):
                    view = bent(chance, slow, slow.view(hand))
                    wrong = view_wrong(slow.hands, view)
                    self.assertEqual(wrong, slow_wrong(slow.hands, view), view)
                    told[wrong is None] += 1
        self.assertGreater(min(told.values()), 100)


class Parted(unittest.TestCase):
    ONE = ("ann", (SEE, TELL, FIRST))

    def test_shared(self):
        for other, told in ((self.ONE, None), (("ann", ()), 0), (("ann", (SEE,)), 1), (("ann", (SEE, TELL)), 2),
                            (("ann", (SEE, TELL, FIRST, FIRST)), 3), (("ann", (SEE, TELL, SEE)), 2),
                            (("ann", (SEE, SEE, TELL)), 1), (("ann", (FIRST,)), 0),
                            (("ann", (SEE, TELL, ("read", "bob", 1, (("cy", 1),), ((None, ("red",)),)))), 2)):
            self.assertEqual(parted(HANDS, self.ONE, other), told, other)
            self.assertEqual(parted(HANDS, other, self.ONE), told, other)
            self.assertNotIsInstance(parted(HANDS, other, self.ONE), bool)
        self.assertIsNone(parted(HANDS, ("ann", ()), ("ann", ())))
        self.assertEqual(parted(other=("ann", ()), one=self.ONE, hands=HANDS), 0)

    def test_refusals_in_their_order(self):
        bad = ("ann", (("look", 0, ()),))
        for hands in NO_HANDS:
            with self.assertRaises(NoHands):
                parted(hands, 5, 5)
        for one, other, told in ((5, bad, ("view",)), (bad, 5, ("entry", 0)), (self.ONE, 5, ("view",)),
                                 (self.ONE, ("ann", (SEE, ("look", 1, ()))), ("entry", 1)),
                                 (("bob", ()), bad, ("entry", 0))):
            with self.assertRaises(NoView) as caught:
                parted(HANDS, one, other)
            self.assertEqual(caught.exception.wrong, told)
        for one, other in ((self.ONE, ("bob", ())), (("bob", ()), self.ONE), (("ann", ()), ("bob", ()))):
            with self.assertRaises(NoHand):
                parted(HANDS, one, other)


if __name__ == "__main__":
    unittest.main()
