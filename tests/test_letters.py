"""Points 8 to 13: files, letters, what they are read as, and what is unread."""

import unittest

from saidground.histories import read_history
from saidground.letters import cards_of, file_of, letter, letters, unread
from saidground.worlds import world_of


def of(*rows):
    return read_history(["hands ann bob cy", *rows])


# Ann tells of two things, and has bob's answer that he read of them.
BEGUN = ("see ann 0 big red", "see ann 1 red", "write ann bob : 0 big red : 1 red", "read bob ann 1", "write bob ann",
         "read ann bob 1")


class Files(unittest.TestCase):
    def test_see_look_and_one(self):
        rows = ["see ann 3 red", "see ann 3", "see ann 4 tall", "look ann 1 old", "see bob 3 big"]
        history = of(*rows)
        self.assertEqual(file_of(history, "ann"), [((0,), ("red",)), ((1,), ("old",)), ((2,), ("tall",))])
        self.assertEqual(file_of(history, "bob"), [((0,), ("big",))])
        self.assertEqual(file_of(history, "cy"), [])
        history = of(*rows, "one ann 1 0", "see ann 4", "one ann 3 2", "look ann 1 wet", "one ann 0 1")
        self.assertEqual(file_of(history, "ann"), [((0, 1), ("old", "red", "wet")), ((2, 3), ("tall",))])

    def test_lots_of_three(self):
        sees = [f"see ann 0 {word}" for word in ("a", "b", "c", "d", "e")]
        history = of(*sees, "one ann 4 2", "one ann 3 1", "one ann 4 1")
        self.assertEqual(file_of(history, "ann"), [((0,), ("a",)), ((1, 2, 3, 4), ("b", "c", "d", "e"))])

    def test_no_deeds(self):
        history = of()
        self.assertEqual(file_of(history=history, hand="ann"), [])
        self.assertEqual(cards_of(history=history, hand="ann"), {})
        self.assertEqual(letters(history=history), [])
        self.assertEqual(unread(history=history), [])


class Letters(unittest.TestCase):
    def test_new_things(self):
        history = of("see ann 0 big red", "write ann bob : 0 red", "write ann bob", "write ann cy : 0")
        self.assertEqual(letters(history), [("ann", "bob", 1, (), ((None, ("red",)),)), ("ann", "bob", 2, (), ()),
                                            ("ann", "cy", 1, (), ((None, ()),))])

    def test_the_empty_description(self):
        history = of("see ann 0 red", "write ann bob : 0 red", "read bob ann 1", "write bob ann : 0")
        self.assertEqual(letter(history, "bob", "ann", 1), ("bob", "ann", 1, (("ann", 1),), (((), ()),)))

    def test_descriptions_of_one_word_and_of_two(self):
        history = of(*BEGUN, "write ann bob : 1 : 0")
        self.assertEqual(letters(history)[-1][4], ((None, ()), (("big",), ())))
        history = of("see ann 0 big red", "see ann 1 old red", "see ann 2 big old",
                     "write ann bob : 0 big red : 1 old red : 2 big old", "read bob ann 1", "write bob ann : 0 : 1 : 2")
        self.assertEqual([line[0] for line in letters(history)[-1][4]],
                         [("big", "red"), ("old", "red"), ("big", "old")])

    def test_the_least_of_several_safe_ones(self):
        history = of("see ann 0 big old red", "see ann 1", "write ann bob : 0 big old red : 1", "read bob ann 1",
                     "write bob ann : 0 red : 1")
        self.assertEqual(letters(history)[-1][4], ((("big",), ("red",)), (None, ())))
        history = of("see ann 0 big old red", "see ann 1 big old", "see ann 2 red", "see ann 3 big",
                     "write ann bob : 0 big old red : 1 big old : 2 red : 3 big", "read bob ann 1", "write bob ann : 0")
        self.assertEqual(letters(history)[-1][4], ((("big", "red"), ()),))

    def test_two_things_of_like_words_are_new_ones_again(self):
        history = of("see ann 0 red", "see ann 1 red", "write ann bob : 0 red : 1 red", "read bob ann 1",
                     "write bob ann : 1 : 0")
        self.assertEqual(letters(history)[-1][4], ((None, ()), (None, ())))

    def test_a_description_has_no_words_that_were_not_said(self):
        history = of("see ann 0 big red", "see ann 1 red", "write ann bob : 0 red : 1 red", "read bob ann 1",
                     "write bob ann", "read ann bob 1", "write ann bob : 0 big")
        self.assertEqual(letters(history)[-1][4], ((None, ("big",)),))

    def test_names_tell_of_all_that_was_read_of_anybody(self):
        history = of("write ann bob", "write ann bob", "write cy bob", "read bob cy 1", "write bob cy",
                     "read bob ann 2", "read bob ann 2", "write bob ann")
        self.assertEqual(letter(history, "bob", "cy", 1)[3], (("cy", 1),))
        self.assertEqual(letter(history, "bob", "ann", 1)[3], (("ann", 2), ("cy", 1)))

    def test_nothing_is_named_that_the_other_may_not_have(self):
        history = of("see ann 0 red", "write ann bob : 0 red", "read bob ann 1", "write ann bob : 0")
        self.assertEqual(letters(history)[-1][4], ((None, ()),))
        history = of("see ann 0 red", "write ann bob : 0 red", "read bob ann 1", "write bob ann", "write ann bob : 0")
        self.assertEqual(letters(history)[-1][4], ((None, ()),))

    def test_what_was_said_to_a_third_hand_is_no_ground(self):
        history = of(*BEGUN, "write ann cy : 0", "read bob ann 1", "write bob cy : 0", "read cy bob 1",
                     "write cy ann : 0")
        self.assertEqual([one[4] for one in letters(history)[2:]], [((None, ()),)] * 3)

    def test_a_thing_told_as_new_twice_is_named_by_what_fits_both(self):
        history = of("see ann 0 red", "write ann bob : 0 red", "write ann bob : 0 red", "read bob ann 2",
                     "read bob ann 1", "write bob ann", "read ann bob 1", "write ann bob : 0", "read bob ann 3")
        self.assertEqual(letter(history, "ann", "bob", 3)[4], (((), ()),))
        self.assertEqual(file_of(history, "bob"), [((0, 1), ("red",))])
        self.assertEqual(file_of(of(*BEGUN), "bob"), [((0,), ("big", "red")), ((1,), ("red",))])

    def test_a_reader_with_two_cards_for_one_thing_names_neither_by_what_fits_both(self):
        history = of("see ann 0 red", "write ann bob : 0 red", "write ann bob : 0 red", "read bob ann 2",
                     "read bob ann 1", "write bob ann : 0", "one bob 0 1", "write bob ann : 0")
        self.assertEqual([one[4] for one in letters(history)[2:]], [((None, ()),), (((), ()),)])

    def test_letter_and_its_place(self):
        history = of(*BEGUN, "write ann bob : 0")
        for one in letters(history):
            self.assertEqual(letter(history, *one[:3]), one)
        self.assertEqual(letter(number=1, reader="bob", writer="ann", history=history), letters(history)[0])


class Reading(unittest.TestCase):
    def test_new_cards_with_the_words_of_the_line(self):
        history = of("see ann 0 big red", "see ann 1 old", "see bob 7", "write ann bob : 1 old : 0 red",
                     "read bob ann 1")
        self.assertEqual(file_of(history, "bob"), [((0,), ()), ((1,), ("old",)), ((2,), ("red",))])
        self.assertEqual(cards_of(history, "bob"), {("ann", "bob", 1, 0): 1, ("ann", "bob", 1, 1): 2})
        self.assertEqual(cards_of(history, "ann"), {("ann", "bob", 1, 0): 1, ("ann", "bob", 1, 1): 0})
        self.assertEqual(cards_of(history, "cy"), {})

    def test_lines_words_are_known_by_a_description(self):
        history = of(*BEGUN, "look ann 0 tall", "write ann bob : 0 tall", "read bob ann 2")
        self.assertEqual(letters(history)[-1][4], ((("big",), ("tall",)),))
        self.assertEqual(file_of(history, "bob"), [((0,), ("big", "red", "tall")), ((1,), ("red",))])
        self.assertEqual(cards_of(history, "bob")[("ann", "bob", 2, 0)], 0)

    def test_read_twice_nothing_comes_of_it(self):
        once = of("see ann 0 red", "write ann bob : 0 red", "read bob ann 1")
        twice = of("see ann 0 red", "write ann bob : 0 red", "read bob ann 1", "read bob ann 1")
        self.assertEqual(file_of(once, "bob"), file_of(twice, "bob"))
        self.assertEqual(cards_of(once, "bob"), cards_of(twice, "bob"))

    def test_out_of_order_and_lost(self):
        rows = ("see ann 0 red", "see ann 1 old", "see ann 2 wet", "write ann bob : 0 red", "write ann bob : 1 old",
                "write ann bob : 2 wet", "read bob ann 3", "read bob ann 1", "write bob ann", "read ann bob 1")
        history = of(*rows, "write ann bob : 0 : 1 : 2")
        self.assertEqual(file_of(history, "bob"), [((0,), ("wet",)), ((1,), ("red",))])
        self.assertEqual(unread(history), [("ann", "bob", 2), ("ann", "bob", 4)])
        self.assertEqual(letters(history)[-1][4], ((("red",), ()), (None, ()), (("wet",), ())))
        late = of(*rows, "write ann bob : 0 : 1 : 2", "read bob ann 4", "read bob ann 2")
        self.assertEqual(file_of(late, "bob"), [((0,), ("wet",)), ((1,), ("red",)), ((2,), ()), ((3,), ("old",))])

    def test_a_late_letter_is_read_in_its_own_ground(self):
        rows = (*BEGUN, "write ann bob : 0", "write bob ann", "see bob 5 big", "write bob ann : 2 big",
                "read ann bob 3",
                "write ann bob : 0 : 2", "read bob ann 3", "read bob ann 2")
        history = of(*rows)
        self.assertEqual(letter(history, "ann", "bob", 2)[4], ((("big",), ()),))
        self.assertEqual(letter(history, "ann", "bob", 3)[4], ((("big", "red"), ()), (None, ())))
        self.assertEqual(file_of(history, "bob"),
                         [((0,), ("big", "red")), ((1,), ("red",)), ((2,), ("big",)), ((3,), ())])
        self.assertEqual(cards_of(history, "bob")[("ann", "bob", 2, 0)], 0)

    def test_lots_become_one_by_a_letter(self):
        rows = ("see ann 0 red", "see ann 0 old", "write ann bob : 0 red : 1 old", "read bob ann 1", "write bob ann",
                "read ann bob 1", "one ann 0 1", "write ann bob : 1 old red")
        self.assertEqual(file_of(of(*rows), "bob"), [((0,), ("red",)), ((1,), ("old",))])
        history = of(*rows, "read bob ann 2")
        self.assertEqual(letters(history)[-1][4], (((), ("old", "red")),))
        self.assertEqual(file_of(history, "bob"), [((0, 1), ("old", "red"))])
        self.assertEqual(cards_of(history, "bob"), {("ann", "bob", 1, 0): 0, ("ann", "bob", 1, 1): 0,
                                                    ("ann", "bob", 2, 0): 0})

    def test_the_card_of_a_description_is_that_of_the_first_slot(self):
        # Bob has the later card for the first slot; what he says of it is asked in his least history (21).
        history = of("see ann 0 red", "write ann bob : 0 red", "write ann bob : 0 red", "read bob ann 2",
                     "read bob ann 1", "write bob ann", "read ann bob 1", "write ann bob : 0 red", "read bob ann 3")
        self.assertEqual(world_of(history).held["bob"].cards, {
            ("ann", "bob", 1, 0): 1, ("ann", "bob", 2, 0): 0, ("ann", "bob", 3, 0): 1})
        self.assertEqual(cards_of(history, "bob")[("ann", "bob", 3, 0)], 0)
        self.assertEqual(file_of(history, "bob"), [((0, 1), ("red",))])

    def test_cards_of_are_rising_and_least(self):
        history = of("see bob 0", "see bob 0 red", "write bob ann : 1", "write bob cy : 1", "write bob ann : 0",
                     "read ann bob 2", "read ann bob 1", "write ann bob : 0", "read bob ann 1", "one bob 1 0")
        told = cards_of(history, "bob")
        self.assertEqual(list(told.items()), [(("ann", "bob", 1, 0), 2), (("bob", "ann", 1, 0), 0),
                                              (("bob", "ann", 2, 0), 0), (("bob", "cy", 1, 0), 0)])

    def test_unread_as_they_were_written(self):
        rows = ("write cy ann", "write ann bob", "write bob ann", "write ann bob", "write ann cy")
        self.assertEqual(unread(of(*rows)), [("cy", "ann", 1), ("ann", "bob", 1), ("bob", "ann", 1), ("ann", "bob", 2),
                                             ("ann", "cy", 1)])
        self.assertEqual(unread(of(*rows, "read bob ann 2", "read ann cy 1")),
                         [("ann", "bob", 1), ("bob", "ann", 1), ("ann", "cy", 1)])
        self.assertEqual(unread(of("write ann bob", "read bob ann 1")), [])


if __name__ == "__main__":
    unittest.main()
