"""Points 12, 15, 16, 20 and 21: what fits, names, what is unsafe, and how it would be misread."""

import unittest

from saidground.histories import history_wrong, printed, read_history
from saidground.letters import file_of, fits, ground_file, letters, misread, name_for, public, unsafe


def of(*rows):
    return read_history(["hands ann bob cy", *rows])


# Ann tells of three things, and has bob's answer that he read of them; another one she sees alone.
TOLD = of("see ann 5 big red", "see ann 4 red", "see ann 3 old", "write ann bob : 0 big red : 1 red : 2 old",
          "read bob ann 1", "write bob ann", "read ann bob 1", "see ann 5 wet")

# All that a least history has: third hands' letters, lost ones, late ones, new lines, descriptions.
ALL = of("see cy 3 old", "write cy bob : 0 old", "write cy bob", "read bob cy 2", "see ann 5 red", "see ann 5 red tall",
         "see ann 6 tall", "write ann bob : 0 red : 1 tall", "read bob ann 1", "write bob ann : 0 red",
         "look bob 1 wet", "see bob 7 big", "write bob ann : 1 wet : 2 big", "read ann bob 2", "one ann 0 1",
         "write ann bob : 1 red tall wet", "read bob ann 2", "write bob ann : 1 wet", "read ann bob 3", "see ann 9")


class Fits(unittest.TestCase):
    def test_fits(self):
        lots = ground_file(TOLD, "ann", "bob")
        for words, numbers in (((), [0, 1, 2]), (("red",), [0, 1]), (("big",), [0]), (("big", "red"), [0]),
                               (("old",), [2]), (("big", "old"), []), (("wet",), [])):
            self.assertEqual(fits(lots, words), numbers)
        self.assertEqual(fits(words=(), lots=[]), [])

    def test_of_other_lots(self):
        self.assertEqual(fits(file_of(TOLD, "ann"), ("wet",)), [3])
        self.assertEqual(fits(public(letters(TOLD)), ("big",)), [0])
        self.assertEqual(fits([((), ("red",)), ((1,), ("old", "red")), ((2,), ())], ("red",)), [0, 1])

    def test_new_lists(self):
        lots = ground_file(TOLD, "ann", "bob")
        fits(lots, ()).append(9)
        self.assertEqual(fits(lots, ()), [0, 1, 2])


class Names(unittest.TestCase):
    def test_name_for(self):
        self.assertEqual([name_for(TOLD, "ann", "bob", card) for card in range(4)], [("big",), None, ("old",), None])
        self.assertEqual([name_for(TOLD, "bob", "ann", card) for card in range(3)], [("big",), None, ("old",)])
        self.assertEqual([name_for(TOLD, "ann", "cy", card) for card in range(4)], [None] * 4)
        self.assertEqual(name_for(card=2, other="bob", hand="ann", history=TOLD), ("old",))

    def test_name_of_all_cards_of_a_lot(self):
        hands, deeds = TOLD
        history = (hands, (*deeds, ("one", "ann", 3, 0)))
        self.assertEqual(name_for(history, "ann", "bob", 3), ("big",))

    def test_it_is_the_name_that_a_line_gets(self):
        hands, deeds = TOLD
        for card in range(4):
            history = (hands, (*deeds, ("write", "ann", "bob", ((card, ()),))))
            self.assertEqual(letters(history)[-1][4][0][0], name_for(TOLD, "ann", "bob", card))


class Unsafe(unittest.TestCase):
    def test_unsafe(self):
        for card, words, told in ((0, ("big",), None), (0, ("big", "red"), None), (0, ("red",), ("other", 1)),
                                  (1, ("red",), ("other", 0)), (0, (), ("other", 1)), (1, ("big",), ("other", 0)),
                                  (2, (), ("other", 0)), (2, ("old",), None), (3, ("old",), ("other", 2)),
                                  (0, ("wet",), ("nothing",)), (0, ("big", "old"), ("nothing",)),
                                  (3, ("wet",), ("nothing",))):
            self.assertEqual(unsafe(TOLD, "ann", "bob", card, words), told, (card, words))
        self.assertEqual(unsafe(TOLD, "ann", "cy", 0, ()), ("nothing",))
        self.assertEqual(unsafe(words=(), card=2, other="bob", hand="ann", history=TOLD), ("other", 0))

    def test_of_a_lot_with_several_faces(self):
        history = of("see ann 0 red", "see ann 0 red", "see ann 1 old", "write ann bob : 0 red : 1 red : 2 old",
                     "read bob ann 1", "write bob ann", "read ann bob 1")
        self.assertEqual(unsafe(history, "ann", "bob", 0, ("red",)), ("other", 1))
        self.assertEqual(unsafe(history, "ann", "bob", 1, ("red",)), ("other", 0))
        history = (history[0], (*history[1], ("one", "ann", 0, 1)))
        self.assertIsNone(unsafe(history, "ann", "bob", 0, ("red",)))
        self.assertEqual(unsafe(history, "ann", "bob", 0, ()), ("other", 2))
        self.assertEqual(unsafe(history, "ann", "bob", 2, ()), ("other", 0))

    def test_words_that_nobody_said(self):
        self.assertEqual(unsafe(TOLD, "ann", "bob", 0, ("big", "zzz")), ("nothing",))


class Misread(unittest.TestCase):
    def test_safe(self):
        self.assertIsNone(misread(TOLD, "ann", "bob", 0, ("big",)))
        self.assertIsNone(misread(words=("old",), card=2, other="bob", hand="ann", history=TOLD))

    def test_nothing_and_one(self):
        least = read_history(["hands ann bob cy", "see ann 0 big red", "see ann 1 red", "see ann 2 old",
                              "write ann bob : 0 big red : 1 red : 2 old", "read bob ann 1", "write bob ann",
                              "read ann bob 1", "see ann 3 wet"])
        self.assertEqual(misread(TOLD, "ann", "bob", 0, ("wet",)), ("nothing", least))
        self.assertEqual(misread(TOLD, "ann", "cy", 0, ()), ("nothing", least))
        self.assertEqual(misread(TOLD, "ann", "bob", 0, ("red",)), ("one", least, ("ann", "bob", 1, 1)))
        self.assertEqual(misread(TOLD, "ann", "bob", 1, ()), ("one", least, ("ann", "bob", 1, 0)))
        self.assertEqual(misread(TOLD, "ann", "bob", 3, ("old",)), ("one", least, ("ann", "bob", 1, 2)))

    def test_what_the_hand_does_not_hold_to_be_one_is_another_thing(self):
        # The two cards are of one thing, but ann can't know.
        history = of("see ann 5 red", "see ann 5 red", "write ann bob : 0 red : 1 red", "read bob ann 1",
                     "write bob ann", "read ann bob 1")
        least = misread(history, "ann", "bob", 1, ("red",))[1]
        self.assertEqual([deed[2] for deed in least[1] if deed[0] == "see"], [0, 1])

    def test_one_that_is_found_later_is_one_thing_from_the_first(self):
        history = of("see ann 7 red", "see ann 8 old", "see ann 7", "one ann 2 0")
        self.assertEqual(misread(history, "ann", "bob", 0, ()), (
            "nothing", of("see ann 0 red", "see ann 1 old", "see ann 0", "one ann 2 0")))

    def test_hands_of_which_it_knows_nothing(self):
        history = of("see bob 0 red", "write bob ann : 0", "write bob cy", "read cy bob 1", "write cy bob", "see ann 3")
        self.assertEqual(misread(history, "ann", "bob", 0, ()), ("nothing", of("see ann 0")))

    def test_all_of_a_least_history(self):
        self.assertEqual(misread(ALL, "ann", "bob", 2, ("red",)), ("one", of(
            "write cy bob", "write cy bob", "see ann 0 red", "see ann 0 red tall", "see ann 1 tall",
            "write ann bob : 0 red : 1 tall", "write bob ann", "read bob ann 1", "read bob cy 2", "look bob 1 wet",
            "see bob 2 big", "write bob ann : 1 wet : 2 big", "read ann bob 2", "one ann 0 1",
            "write ann bob : 1 red tall wet", "read bob ann 2", "see bob 3 wet", "write bob ann : 3 wet",
            "read ann bob 3", "see ann 4"), ("ann", "bob", 1, 0)))
        self.assertEqual(misread(ALL, "bob", "ann", 2, ("red",)), ("one", of(
            "write cy bob", "write cy bob", "read bob cy 2", "see ann 0 red", "see ann 1 tall",
            "write ann bob : 0 red : 1 tall", "read bob ann 1", "write bob ann : 0 red", "look bob 1 wet",
            "see bob 2 big", "write bob ann : 1 wet : 2 big", "read ann bob 2", "look ann 0 tall wet",
            "write ann bob : 0 red tall wet", "read bob ann 2", "write bob ann : 1 wet"), ("ann", "bob", 1, 0)))
        self.assertEqual(misread(ALL, "cy", "ann", 0, ("red",)), ("nothing", of(
            "see cy 0 old", "write cy bob : 0 old", "write cy bob")))

    def test_a_description_of_several_cards_is_found_to_be_one(self):
        history = of("see ann 5 red", "see ann 5 old", "see ann 5 wet", "write ann bob : 2 wet",
                     "write ann bob : 1 old",
                     "write ann bob : 0 red", "read bob ann 3", "read bob ann 2", "read bob ann 1", "one bob 2 0",
                     "one bob 1 2", "look bob 1 big", "write bob ann : 2 big red", "read ann bob 1")
        self.assertEqual(letters(history)[-1][4], (((), ("big", "red")),))
        self.assertEqual(printed(misread(history, "ann", "bob", 0, ("zzz",))[1]), [
            "hands ann bob cy", "see ann 0 red", "see ann 0 old", "see ann 0 wet", "write ann bob : 2 wet",
            "write ann bob : 1 old", "write ann bob : 0 red", "read bob ann 1", "read bob ann 2", "read bob ann 3",
            "one bob 0 1", "one bob 0 2", "look bob 0 big", "write bob ann : 0 big red", "read ann bob 1"])
        # What is one by then, or known, isn't found or seen anew.
        more = of(*printed(history)[1:], "write bob ann : 1 big red", "read ann bob 2")
        self.assertEqual(printed(misread(more, "ann", "bob", 0, ("zzz",))[1])[-4:], [
            "write bob ann : 0 big red", "read ann bob 1", "write bob ann : 0 big red", "read ann bob 2"])

    def test_the_least_of_the_cards_for_slots_not_of_their_lot(self):
        # Bob holds his cards 0 and 1 to be one, but of the second letter's words the second line's alone were all said.
        history = of("see ann 7 red wet", "see ann 7 old red", "see ann 8 old wet",
                     "write ann bob : 0 red wet : 1 old red : 2 old wet", "read bob ann 1", "one bob 1 0",
                     "write bob ann : 1", "see ann 9 red", "write ann bob : 3 red", "read bob ann 2",
                     "write bob ann : 0",
                     "read ann bob 1", "read ann bob 2")
        self.assertEqual([one[4] for one in letters(history) if one[0] == "bob"],
                         [((("red",), ()),), ((("old", "red"), ()),)])
        self.assertEqual(printed(misread(history, "ann", "bob", 0, ("zzz",))[1]), [
            "hands ann bob cy", "see ann 0 red wet", "see ann 0 old red", "see ann 1 old wet",
            "write ann bob : 0 red wet : 1 old red : 2 old wet", "see ann 2 red", "write ann bob : 3 red",
            "read bob ann 1", "one bob 0 1", "write bob ann : 0", "read ann bob 1", "read bob ann 2",
            "write bob ann : 1", "read ann bob 2"])

    def test_late_letters_are_written_ahead_of_the_first_that_is_read(self):
        history = of("write bob ann", "see bob 3 old", "write bob ann : 0 old", "write bob ann", "write bob ann",
                     "read ann bob 3", "read ann bob 2", "read ann bob 3", "see ann 3")
        self.assertEqual(printed(misread(history, "ann", "bob", 1, ())[1]), [
            "hands ann bob cy", "write bob ann", "see bob 0 old", "write bob ann : 0 old", "write bob ann",
            "read ann bob 3", "read ann bob 2", "read ann bob 3", "see ann 1"])

    def test_third_hands_letters_by_writer_reader_number(self):
        history = read_history([
            "hands a b c d", "write d c", "write d c", "write b c", "write c b", "write d b", "write c d", "read d c 1",
            "read c d 2", "read c b 1", "read b c 1", "read b d 1", "write c a", "write b a", "read a c 1",
            "read a b 1",
            "see a 0"])
        self.assertEqual(printed(misread(history, "a", "b", 0, ())[1]), [
            "hands a b c d", "write b c", "write c b", "write d b", "write d c", "write d c", "read c b 1",
            "read c d 2",
            "write c a", "read a c 1", "read b c 1", "read b d 1", "write b a", "read a b 1", "see a 0"])

    def test_a_least_history_is_its_own_and_may_be_handed_in(self):
        kind, least, slot = misread(ALL, "ann", "bob", 2, ("red",))
        self.assertIsNone(history_wrong(least))
        self.assertEqual(misread(least, "ann", "bob", 2, ("red",)), (kind, least, slot))


if __name__ == "__main__":
    unittest.main()
