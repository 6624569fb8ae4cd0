"""Points 5, 6 and 8: what is a history, and what is told of what is none."""

import unittest

from saidground.histories import history_wrong

HANDS = ("ann", "bob", "cy")
ANYTHING = (None, True, False, 0, 1, -1, "", "ann", "hands", (), [], ((), []), ([], ()), [(), ()], ("ann", "bob"),
            ((), (), ()), ((),), (1, 2), "ab", (None, None), ((("ann", "bob"), ()),), [HANDS, ()], (list(HANDS), ()),
            (HANDS, []), (HANDS, None), (HANDS, "see"), (HANDS, (), ()))


def wrong(*deeds, hands=HANDS):
    return history_wrong((hands, deeds))


class Forms(unittest.TestCase):
    def test_no_history(self):
        for thing in ANYTHING:
            self.assertEqual(history_wrong(thing), ("history",), thing)
        self.assertEqual(history_wrong(((), ())), ("hands",))

    def test_argument_by_name(self):
        self.assertEqual(history_wrong(thing=5), ("history",))

    def test_hands(self):
        for hands in (("a", "b"), ("a", "b", "c", "d", "e"), ("abcdefgh", "b"), ("a", "aa"), ("x", "xa", "y")):
            self.assertIsNone(wrong(hands=hands), hands)
        for hands in ((), ("a",), ("a", "b", "c", "d", "e", "f"), ("b", "a"), ("a", "a"), ("a", "b", "b"),
                      ("a", "abcdefghi"), ("", "a"), ("A", "b"), ("a", "b1"), ("a", "b "), ("a", "\u00e9"),
                      ("a", 5), (None, "a"), ("a", True), ("a", ("b",)), ("a", ["b"]), (1, 2)):
            self.assertEqual(wrong(hands=hands), ("hands",), hands)
            self.assertEqual(wrong("no deed", hands=hands), ("hands",), hands)

    def test_no_deed_of_any_form(self):
        for deed in (None, True, 0, "see", (), [], ("see",), ("see", "ann", 0), ("see", "ann", 0, (), ()),
                     ["see", "ann", 0, ()], ("saw", "ann", 0, ()), (None, "ann", 0, ()), ("SEE", "ann", 0, ()),
                     ("one", "ann", 0), ("write", "ann", "bob"), ("read", "ann", "bob"), (("see",), "ann", 0, ()),
                     ("", "ann", 0, ()), (["see"], "ann", 0, ()), ("reads", "ann", "bob", 1),
                     (None, "ann", "bob", 1), ("writes", "ann", "bob", ())):
            self.assertEqual(wrong(deed), ("deed", 0), deed)

    def test_hands_of_deeds(self):
        for bad in ("dan", "", None, True, 0, ("ann",), ["ann"], "Ann"):
            for deed in (("see", bad, 0, ()), ("look", bad, 0, ()), ("one", bad, 0, 0), ("write", bad, "bob", ()),
                         ("write", "ann", bad, ()), ("read", bad, "bob", 1), ("read", "ann", bad, 1)):
                self.assertEqual(wrong(deed), ("deed", 0), deed)

    def test_nobody_writes_to_itself_or_reads_from_itself(self):
        self.assertEqual(wrong(("write", "ann", "ann", ())), ("deed", 0))
        self.assertEqual(wrong(("read", "ann", "ann", 1)), ("deed", 0))

    def test_whole_numbers(self):
        see = ("see", "ann", 0, ())
        for bad in (True, False, -1, None, "0", (0,), [0]):
            for deed in (("see", "ann", bad, ()), ("look", "ann", bad, ()), ("one", "ann", bad, 0),
                         ("one", "ann", 0, bad), ("read", "ann", "bob", bad), ("write", "ann", "bob", ((bad, ()),))):
                self.assertEqual(wrong(see, deed), ("deed", 1), deed)
        self.assertEqual(wrong(see, ("read", "ann", "bob", 0)), ("deed", 1))
        self.assertIsNone(wrong(("see", "ann", 999, ())))

    def test_words(self):
        see = ("see", "ann", 0, ("big", "red"))
        for good in ((), ("big",), ("red",), ("big", "red")):
            self.assertIsNone(wrong(see, ("look", "ann", 0, good), ("write", "ann", "bob", ((0, good),))))
        for bad in (("red", "big"), ("big", "big"), ["big"], "big", None, ("",), ("Big",), ("abcdefghi",), (5,),
                    (True,), (("big",),), ("big", None), ("b g",), 0):
            for deed in (("see", "ann", 0, bad), ("look", "ann", 0, bad), ("write", "ann", "bob", ((0, bad),))):
                self.assertEqual(wrong(see, deed), ("deed", 1), deed)

    def test_lines(self):
        see = ("see", "ann", 0, ())
        for bad in (None, [], [(0, ())], (0, ()), ((0,),), ((0, (), ()),), ([0, ()],), (None,), "0", 5, ((),)):
            self.assertEqual(wrong(see, ("write", "ann", "bob", bad)), ("deed", 1), bad)

    def test_the_first_wrong_form_is_told_ahead_of_all_that_can_not_be_done(self):
        undone = ("look", "ann", 0, ())
        bad = ("see", "ann", True, ())
        self.assertEqual(wrong(undone, bad, bad), ("deed", 1))
        self.assertEqual(wrong(undone, ("see", "ann", 0, ()), undone), ("done", 0))


class Done(unittest.TestCase):
    def test_no_deeds(self):
        self.assertIsNone(wrong())

    def test_look(self):
        self.assertEqual(wrong(("look", "ann", 0, ())), ("done", 0))
        self.assertEqual(wrong(("see", "ann", 0, ()), ("look", "ann", 1, ())), ("done", 1))
        self.assertEqual(wrong(("see", "ann", 0, ()), ("look", "bob", 0, ())), ("done", 1))
        self.assertIsNone(wrong(("see", "ann", 0, ()), ("look", "ann", 0, ("red",)), ("look", "ann", 0, ())))

    def test_one(self):
        seen = (("see", "ann", 4, ()), ("see", "ann", 4, ()), ("see", "ann", 5, ()), ("see", "bob", 4, ()))
        for card, other in ((0, 1), (1, 0), (0, 0), (2, 2)):
            one = ("one", "ann", card, other)
            self.assertIsNone(wrong(*seen, one, one))
        for card, other in ((0, 2), (2, 1), (0, 3), (3, 0), (3, 3), (900, 900)):
            self.assertEqual(wrong(*seen, ("one", "ann", card, other)), ("done", 4))
        self.assertEqual(wrong(*seen, ("one", "bob", 0, 1)), ("done", 4))

    def test_one_of_cards_by_letters(self):
        deeds = (("see", "ann", 4, ()), ("see", "ann", 5, ()), ("see", "bob", 5, ()),
                 ("write", "ann", "bob", ((0, ()), (1, ()))), ("read", "bob", "ann", 1))
        self.assertIsNone(wrong(*deeds, ("one", "bob", 0, 2)))
        self.assertEqual(wrong(*deeds, ("one", "bob", 0, 1)), ("done", 5))

    def test_write(self):
        seen = (("see", "ann", 4, ("big", "red")), ("see", "ann", 4, ("tall",)), ("see", "ann", 5, ()))
        for lines in ((), ((0, ()),), ((0, ("big", "red")), (1, ("tall",)), (2, ())), ((1, ()), (0, ("red",)))):
            self.assertIsNone(wrong(*seen, ("write", "ann", "bob", lines)), lines)
        for lines in (((3, ()),), ((0, ("tall",)),), ((2, ("red",)),), ((0, ()), (0, ())), ((0, ()), (1, ()), (0, ())),
                      ((0, ()), (1, ("zzz",)))):
            self.assertEqual(wrong(*seen, ("write", "ann", "bob", lines)), ("done", 3), lines)
        self.assertEqual(wrong(*seen, ("write", "bob", "ann", ((0, ()),))), ("done", 3))

    def test_write_of_two_cards_in_one_lot(self):
        seen = (("see", "ann", 4, ("red",)), ("see", "ann", 4, ("tall",)), ("see", "ann", 4, ()))
        both = ("write", "ann", "bob", ((0, ()), (2, ())))
        self.assertIsNone(wrong(*seen, ("one", "ann", 0, 1), both))
        self.assertEqual(wrong(*seen, ("one", "ann", 0, 1), ("one", "ann", 2, 1), both), ("done", 5))

    def test_write_words_that_are_known_by_the_lot(self):
        seen = (("see", "ann", 4, ("red",)), ("see", "ann", 4, ("tall",)))
        line = ("write", "ann", "bob", ((1, ("red", "tall")),))
        self.assertEqual(wrong(*seen, line), ("done", 2))
        self.assertIsNone(wrong(*seen, ("one", "ann", 0, 1), line))
        self.assertIsNone(wrong(*seen, ("look", "ann", 1, ("red",)), line))

    def test_words_seen_by_another_are_true_but_not_known(self):
        deeds = (("see", "ann", 4, ("red",)), ("see", "bob", 4, ("tall",)))
        self.assertEqual(wrong(*deeds, ("write", "ann", "bob", ((0, ("tall",)),))), ("done", 2))

    def test_words_of_letters_are_known(self):
        deeds = (("see", "ann", 4, ("big", "red")), ("write", "ann", "bob", ((0, ("red",)),)),
                 ("read", "bob", "ann", 1))
        self.assertIsNone(wrong(*deeds, ("write", "bob", "cy", ((0, ("red",)),))))
        self.assertEqual(wrong(*deeds, ("write", "bob", "cy", ((0, ("big",)),))), ("done", 3))

    def test_words_of_a_name_are_not_said_anew_but_known_already(self):
        deeds = (("see", "ann", 4, ("red",)), ("write", "ann", "bob", ((0, ("red",)),)), ("read", "bob", "ann", 1),
                 ("write", "bob", "ann", ((0, ()),)), ("read", "ann", "bob", 1),
                 ("write", "bob", "ann", ((0, ("red",)),)))
        self.assertIsNone(wrong(*deeds))

    def test_cards_by_letters_come_behind_those_there(self):
        deeds = (("see", "ann", 4, ()), ("see", "bob", 5, ()), ("write", "ann", "bob", ((0, ()),)),
                 ("read", "bob", "ann", 1), ("see", "bob", 4, ()))
        self.assertIsNone(wrong(*deeds, ("one", "bob", 1, 2)))
        self.assertEqual(wrong(*deeds, ("one", "bob", 0, 1)), ("done", 5))
        self.assertEqual(wrong(*deeds, ("look", "bob", 3, ())), ("done", 5))

    def test_read(self):
        write = ("write", "ann", "bob", ())
        self.assertEqual(wrong(("read", "bob", "ann", 1)), ("done", 0))
        self.assertEqual(wrong(("read", "bob", "ann", 1), write), ("done", 0))
        self.assertEqual(wrong(write, ("read", "bob", "ann", 2)), ("done", 1))
        self.assertEqual(wrong(write, ("read", "cy", "ann", 1)), ("done", 1))
        self.assertEqual(wrong(write, ("read", "ann", "bob", 1)), ("done", 1))
        read = ("read", "bob", "ann", 1)
        self.assertIsNone(wrong(write, write, ("read", "bob", "ann", 2), read, read))

    def test_two_lots_made_one_by_a_letter_can_not_stand_in_two_lines(self):
        deeds = (("see", "ann", 4, ("red",)), ("write", "ann", "bob", ((0, ("red",)),)),
                 ("write", "ann", "bob", ((0, ("red",)),)), ("read", "bob", "ann", 1), ("read", "bob", "ann", 2),
                 ("write", "bob", "ann", ()), ("read", "ann", "bob", 1), ("write", "ann", "bob", ((0, ()),)))
        both = ("write", "bob", "cy", ((0, ()), (1, ())))
        self.assertIsNone(wrong(*deeds, both))
        self.assertEqual(wrong(*deeds, ("read", "bob", "ann", 3), both), ("done", 9))

    def test_what_is_handed_in_is_not_changed(self):
        thing = [[["ann", "bob"], []], (("ann", "bob"), [("see", "ann", 0, ())])]
        history_wrong(thing)
        history_wrong(thing[1])
        self.assertEqual(thing, [[["ann", "bob"], []], (("ann", "bob"), [("see", "ann", 0, ())])])


if __name__ == "__main__":
    unittest.main()
