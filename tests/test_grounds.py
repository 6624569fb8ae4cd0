"""Points 11 and 14: grounds, and public files."""

import time
import unittest
from itertools import permutations

from saidground.errors import NoLetters
from saidground.histories import read_history
from saidground.letters import ground, ground_file, letters, public
from tests.helper import by_chance


def of(*rows):
    return read_history(["hands ann bob cy", *rows])


FIRST = ("ann", "bob", 1, (), ((None, ("red",)), (None, ("old",))))
ANSWER = ("bob", "ann", 1, (("ann", 1),), ((("red",), ("big",)),))
NEXT = ("ann", "bob", 2, (("bob", 1),), (((), ("wet",)),))


class Grounds(unittest.TestCase):
    def test_of_each_two_hands(self):
        history = of("write ann bob", "write ann bob", "read bob ann 2", "write bob ann", "write bob cy",
                     "read ann bob 1", "read cy bob 1", "write cy bob", "read bob cy 1")
        told = {(hand, other): ground(history, hand, other) for hand, other in permutations(("ann", "bob", "cy"), 2)}
        self.assertEqual(told, {
            ("ann", "bob"): ((2,), (1,)), ("bob", "ann"): ((), (2,)), ("ann", "cy"): ((), ()), ("cy", "ann"): ((), ()),
            ("bob", "cy"): ((1,), (1,)), ("cy", "bob"): ((), (1,))})

    def test_no_letters(self):
        self.assertEqual(ground(history=of(), hand="ann", other="bob"), ((), ()))
        self.assertEqual(ground_file(history=of(), hand="ann", other="bob"), [])

    def test_letters_that_both_have_but_the_writer_can_not_know_of(self):
        rows = ("write ann bob", "write ann bob", "read bob ann 1", "write bob ann", "read bob ann 2", "write bob ann")
        self.assertEqual(ground(of(*rows), "ann", "bob"), ((), ()))
        self.assertEqual(ground(of(*rows, "read ann bob 1"), "ann", "bob"), ((1,), (1,)))
        self.assertEqual(ground(of(*rows, "read ann bob 2"), "ann", "bob"), ((1, 2), (2,)))
        self.assertEqual(ground(of(*rows, "read ann bob 2", "read ann bob 1"), "ann", "bob"), ((1, 2), (1, 2)))
        self.assertEqual(ground(of(*rows, "read ann bob 2"), "bob", "ann"), ((), (1, 2)))

    def test_ground_file_is_the_public_file_of_the_ground(self):
        for seed in range(15):
            history = by_chance(seed).history()
            for hand, other in permutations(history[0], 2):
                mine, yours = ground(history, hand, other)
                keys = [(hand, other, number) for number in mine] + [(other, hand, number) for number in yours]
                some = [one for one in letters(history) if one[:3] in keys]
                self.assertEqual(ground_file(history, hand, other), public(some))

    def test_ground_file_of_the_letters_that_are_told_of_alone(self):
        history = of("see ann 0 red", "see ann 1 old", "write ann bob : 0 red", "write ann bob : 1 old",
                     "read bob ann 1", "write bob ann : 0", "read bob ann 2", "read ann bob 1")
        self.assertEqual(ground_file(history, "ann", "bob"),
                         [((("ann", "bob", 1, 0), ("bob", "ann", 1, 0)), ("red",))])
        self.assertEqual(ground_file(history, "bob", "ann"),
                         [((("ann", "bob", 1, 0),), ("red",)), ((("ann", "bob", 2, 0),), ("old",))])


class Public(unittest.TestCase):
    def refused(self, at, some):
        with self.assertRaises(NoLetters) as caught:
            public(some)
        self.assertEqual(caught.exception.at, at)
        self.assertNotIsInstance(caught.exception.at, bool)

    def test_of_no_letters(self):
        self.assertEqual(public([]), [])
        self.assertEqual(public(some=[("ann", "bob", 1, (), ())]), [])

    def test_of_letters_in_any_order(self):
        for some in permutations([FIRST, ANSWER, NEXT]):
            self.assertEqual(public(list(some)), [
                ((("ann", "bob", 1, 0), ("ann", "bob", 1, 1), ("ann", "bob", 2, 0), ("bob", "ann", 1, 0)),
                 ("big", "old", "red", "wet"))])
        for some in permutations([FIRST, ANSWER]):
            self.assertEqual(public(list(some)), [
                ((("ann", "bob", 1, 0), ("bob", "ann", 1, 0)), ("big", "red")), ((("ann", "bob", 1, 1),), ("old",))])

    def test_words_of_names_are_not_said_anew(self):
        answer = ("bob", "ann", 1, (("ann", 1),), ((("red",), ()), (None, ())))
        self.assertEqual(public([FIRST, answer]), [
            ((("ann", "bob", 1, 0), ("bob", "ann", 1, 0)), ("red",)), ((("ann", "bob", 1, 1),), ("old",)),
            ((("bob", "ann", 1, 1),), ())])

    def test_a_meaning_stays_what_it_was_in_its_own_ground(self):
        # The answer rests on the first letter alone, though more is red by now.
        more = ("ann", "bob", 2, (), ((None, ("red",)),))
        late = ("bob", "ann", 2, (("ann", 1), ("ann", 2)), ((("red",), ()),))
        self.assertEqual(public([late, more, FIRST, ANSWER]), [
            ((("ann", "bob", 1, 0), ("ann", "bob", 2, 0), ("bob", "ann", 1, 0), ("bob", "ann", 2, 0)), ("big", "red")),
            ((("ann", "bob", 1, 1),), ("old",))])
        self.assertEqual(public([more, FIRST, ANSWER]), [
            ((("ann", "bob", 1, 0), ("bob", "ann", 1, 0)), ("big", "red")), ((("ann", "bob", 1, 1),), ("old",)),
            ((("ann", "bob", 2, 0),), ("red",))])

    def test_lots_that_a_ground_has_joined_fit_by_the_words_of_all(self):
        one = ("bob", "ann", 1, (("ann", 1),), (((), ()),))
        two = ("ann", "bob", 2, (("bob", 1),), ((("old", "red"), ()),))
        self.assertEqual(len(public([FIRST, one, two])), 1)
        self.refused(1, [FIRST, ("bob", "ann", 1, (("ann", 1),), ((("old", "red"), ()),))])

    def test_what_is_below_is_found_first(self):
        # Nothing is big and red but what the answer has joined, wherever the answer stands.
        last = ("ann", "bob", 2, (("bob", 1),), ((("big", "red"), ("tall",)),))
        for some in permutations([FIRST, ANSWER, last]):
            self.assertEqual(public(list(some)), [
                ((("ann", "bob", 1, 0), ("ann", "bob", 2, 0), ("bob", "ann", 1, 0)), ("big", "red", "tall")),
                ((("ann", "bob", 1, 1),), ("old",))])

    def test_names_of_third_hands_are_let(self):
        self.assertEqual(public([("ann", "bob", 1, (("cy", 9), ("eve", 1)), ())]), [])

    def test_no_list(self):
        for thing in (None, (), (FIRST,), "", 5, True, FIRST):
            self.refused(None, thing)

    def test_no_letter_by_form(self):
        for bad in (None, 5, True, "letter", (), [], list(FIRST), FIRST[:4], (*FIRST, ()), ("ann", "ann", 1, (), ()),
                    ("Ann", "bob", 1, (), ()), ("ann", "", 1, (), ()), (5, "bob", 1, (), ()), ("ann", None, 1, (), ()),
                    (["ann"], "bob", 1, (), ()), ("ann", "bob", 0, (), ()), ("ann", "bob", True, (), ()),
                    ("ann", "bob", "1", (), ()), ("ann", "bob", [1], (), ()), ("ann", "bob", 1, [], ()),
                    ("ann", "bob", 1, (), []), ("ann", "bob", 1, (("ann", 1),), ()),
                    ("ann", "bob", 1, (("bob", 0),), ()),
                    ("ann", "bob", 1, (("bob", True),), ()), ("ann", "bob", 1, (("bob", 2), ("bob", 1)), ()),
                    ("ann", "bob", 1, (("bob", 1), ("bob", 1)), ()), ("ann", "bob", 1, (("bob", 1, 1),), ()),
                    ("ann", "bob", 1, (["bob", 1],), ()), ("ann", "bob", 1, (("bo b", 1),), ()),
                    ("ann", "bob", 1, (("cy", 1), ("bob", 1)), ()), ("ann", "bob", 1, ((5, 1),), ()),
                    ("ann", "bob", 1, (), (None,)), ("ann", "bob", 1, (), ((None,),)),
                    ("ann", "bob", 1, (), ((None, None),)),
                    ("ann", "bob", 1, (), ((None, ["red"]),)), ("ann", "bob", 1, (), (("red", ()),)),
                    ("ann", "bob", 1, (), ((("red", "big"), ()),)), ("ann", "bob", 1, (), ((None, ("red", "red")),)),
                    ("ann", "bob", 1, (), ((None, (), ()),)), ("ann", "bob", 1, (), ([None, ()],)),
                    ("ann", "bob", 1, (), ((True, ()),)), ("ann", "bob", 1, (), ((False, ()),)),
                    ("ann", "bob", 1, (), ((0, ()),)), ("ann", "bob", 1, (), (("", ()),)),
                    ("ann", "bob", 1, (), (([], ()),)), ("ann", "bob", 1, (), ((None, ("",)),))):
            self.refused(0, [bad])
            self.refused(2, [FIRST, ANSWER, bad, bad])
            self.refused(1, [ANSWER, bad])

    def test_a_third_hand(self):
        self.refused(1, [FIRST, ("ann", "cy", 1, (), ()), 5])
        self.refused(2, [FIRST, ANSWER, ("cy", "bob", 1, (), ())])
        self.refused(1, [FIRST, ("cy", "dan", 1, (), ()), FIRST])

    def test_told_of_ahead(self):
        self.refused(2, [FIRST, ANSWER, FIRST])
        self.refused(1, [FIRST, ("ann", "bob", 1, (("cy", 1),), ()), ("ann", "cy", 1, (), ())])

    def test_a_ground_that_is_not_all_there(self):
        self.refused(0, [ANSWER])
        self.refused(0, [NEXT, FIRST])
        self.refused(0, [ANSWER, NEXT])
        self.refused(1, [FIRST, NEXT])
        self.refused(0, [NEXT, ANSWER, ("ann", "bob", 3, (), ())])
        self.refused(1, [FIRST, ("bob", "ann", 1, (("ann", 1), ("ann", 2)), ())])

    def test_a_ground_with_the_letter_in_itself(self):
        first = ("ann", "bob", 1, (("bob", 1),), ())
        second = ("bob", "ann", 1, (("ann", 1),), ())
        self.refused(0, [first, second])
        self.refused(0, [second, first])
        late = ("bob", "ann", 1, (("ann", 1), ("ann", 2)), ())
        self.refused(0, [NEXT, late, FIRST])
        self.refused(1, [FIRST, late, NEXT])

    def test_forms_go_ahead_of_grounds(self):
        self.refused(1, [ANSWER, 5])
        self.refused(1, [ANSWER, ("ann", "cy", 1, (), ())])
        self.refused(1, [ANSWER, ANSWER])

    def test_a_ground_without_the_ground_of_one_in_it(self):
        # The second of ann's rests on bob's first, but bob's second, which tells of it, isn't told to have that.
        first = ("bob", "ann", 1, (), ())
        second = ("ann", "bob", 1, (("bob", 1),), ())
        third = ("bob", "ann", 2, (("ann", 1),), ())
        fourth = ("ann", "bob", 2, (("bob", 2),), ())
        self.assertEqual(public([first, second, third]), [])
        self.refused(3, [first, second, third, fourth])
        self.refused(0, [fourth, third, second, first])
        self.assertEqual(public([first, second, third, ("ann", "bob", 2, (("bob", 1), ("bob", 2)), ())]), [])
        self.refused(4, [first, second, third, fourth, ("ann", "bob", 3, (("bob", 3),), ())])

    def test_a_description_that_nothing_fits(self):
        self.refused(0, [("ann", "bob", 1, (), (((), ()),))])
        self.refused(1, [FIRST, ("bob", "ann", 1, (), ((("red",), ()),))])
        self.refused(1, [FIRST, ("bob", "ann", 1, (("ann", 1),), ((("red",), ()), (("wet",), ())))])
        self.refused(0, [("bob", "ann", 1, (("ann", 1),), ((None, ()), (("big",), ()))), FIRST])

    def test_the_first_place_of_what_nothing_fits_though_others_rest_on_it(self):
        loose = ("bob", "ann", 1, (("ann", 1),), ((("wet",), ("tall",)),))
        rests = ("ann", "bob", 2, (("bob", 1),), ((("tall",), ()),))
        self.refused(1, [FIRST, loose, rests])
        self.refused(2, [rests, FIRST, loose])
        fails = ("ann", "bob", 2, (("bob", 1),), ((("red", "tall"), ()),))
        self.refused(0, [fails, FIRST, loose])

    def test_grounds_go_ahead_of_what_fits(self):
        self.refused(1, [("ann", "bob", 1, (), (((), ()),)), ("bob", "ann", 1, (("ann", 2),), ())])

    def test_nothing_is_changed_and_all_is_new(self):
        some = [FIRST, ANSWER, NEXT]
        public(some).clear()
        self.assertEqual(some, [FIRST, ANSWER, NEXT])
        self.assertEqual(len(public(some)), 1)

    def test_letters_of_two_hands_of_a_history(self):
        for seed in range(15):
            slow = by_chance(seed)
            told = letters(slow.history())
            for hand, other in permutations(slow.hands, 2):
                some = [one for one in told if {hand, other} == {*one[:2]}]
                self.assertEqual(public(some), public(some[::-1]))


class Talk(unittest.TestCase):
    def talk(self, many):
        """Letters to and fro, each of six lines, of which some are told anew again."""
        some = []
        for number in range(1, many + 1):
            for writer, reader in (("ann", "bob"), ("bob", "ann")):
                told = [one[2] for one in some if one[0] == reader]
                names = tuple((reader, one) for one in sorted(told))
                lines = ((None, ("red",)), (None, ()), (None, ("old", "red")))
                if some:
                    lines += (((), ()), (("red",), ("old",)), (("old", "red"), ()))
                some.append((writer, reader, number, names, lines))
        return some

    def test_a_talk_of_forty_letters_comes_to_an_end_soon(self):
        start = time.monotonic()
        self.assertEqual(len(public(self.talk(20)[::-1])), 4)
        self.assertLess(time.monotonic() - start, 10)

    def test_letters_of_numbers_up_to_sixty(self):
        start = time.monotonic()
        self.assertEqual(len(public(self.talk(60))), 4)
        self.assertLess(time.monotonic() - start, 30)

    def test_a_history_of_forty_letters(self):
        rows = ["see ann 0 red", "see ann 1 old"]
        for number in range(1, 21):
            rows += ["write ann bob : 0 red : 1 old", f"read bob ann {number}", "write bob ann : 0 red : 1 old",
                     f"read ann bob {number}"]
        start = time.monotonic()
        told = letters(of(*rows))
        self.assertEqual([line[0] for one in told for line in one[4]], [None, None] + [("red",), ("old",)] * 39)
        self.assertEqual([len(lot[0]) for lot in public(told)], [40, 40])
        self.assertEqual(ground(of(*rows), "ann", "bob"), (tuple(range(1, 21)), tuple(range(1, 21))))
        self.assertLess(time.monotonic() - start, 10)


if __name__ == "__main__":
    unittest.main()
