"""Point 7: printed and read_history."""

import unittest

from saidground.errors import NoHistory, NoText
from saidground.histories import printed, read_history
from tests.helper import by_chance

HISTORY = (("ann", "bob"), (
    ("see", "ann", 0, ("big", "red")), ("see", "ann", 999, ()), ("look", "ann", 1, ("red", "tall")),
    ("look", "ann", 0, ()), ("one", "ann", 0, 0), ("write", "ann", "bob", ((1, ("red",)), (0, ()))),
    ("write", "ann", "bob", ()), ("read", "bob", "ann", 2), ("read", "bob", "ann", 1)))
TEXT = ["hands ann bob", "see ann 0 big red", "see ann 999", "look ann 1 red tall", "look ann 0", "one ann 0 0",
        "write ann bob : 1 red : 0", "write ann bob", "read bob ann 2", "read bob ann 1"]


class Texts(unittest.TestCase):
    def refused(self, row, text):
        with self.assertRaises(NoText) as caught:
            read_history(text)
        self.assertEqual(caught.exception.row, row, text)

    def test_printed(self):
        self.assertEqual(printed(HISTORY), TEXT)
        self.assertEqual(printed(history=(("a", "b", "c"), ())), ["hands a b c"])

    def test_read(self):
        self.assertEqual(read_history(TEXT), HISTORY)
        self.assertEqual(read_history(text=["hands a b c"]), (("a", "b", "c"), ()))

    def test_there_and_back(self):
        for seed in range(20):
            history = by_chance(seed).history()
            self.assertEqual(read_history(printed(history)), history)

    def test_printed_is_a_new_list_each_time(self):
        printed(HISTORY).append("more")
        self.assertEqual(printed(HISTORY), TEXT)

    def test_reading_changes_nothing(self):
        text = ["", *TEXT, "  "]
        read_history(text)
        self.assertEqual(text, ["", *TEXT, "  "])

    def test_more_blanks(self):
        text = [f"  {row.replace(' ', '   ')} " for row in TEXT]
        self.assertEqual(read_history(text), HISTORY)

    def test_rows_passed_over_are_counted(self):
        text = ["", "   ", "hands a b", "", "see a 0", " ", "see a zero"]
        self.refused(7, text)
        self.assertEqual(read_history(text[:6]), (("a", "b"), (("see", "a", 0, ()),)))

    def test_no_list_of_texts(self):
        for text in (None, "hands a b", ("hands a b",), ["hands a b", 5], ["hands a b", None], [["hands a b"]], 5,
                     True, [("hands", "a", "b")], ["no", 5]):
            self.refused(0, text)

    def test_the_hands_row_is_lacking(self):
        self.refused(1, [])
        self.refused(2, [""])
        self.refused(4, ["", " ", "     "])

    def test_no_hands_row(self):
        for row in ("see a 0", "hands", "hands a", "hands b a", "hands a a", "hands a b c d e f", "hand a b",
                    "Hands a b",
                    "hands a B", "hands a b1", "hands a abcdefghi", "hands a, b", "a b", "hands a\tb", "\t",
                    "hands a b\n"):
            self.refused(2, ["", row, "nothing such"])

    def test_no_deeds_row(self):
        for row in ("hands a b", "see", "see a", "saw a 0", "see c 0", "see a -1", "see a x", "see a 0 red big",
                    "see a 0 red red", "see a 0 Red", "see a 0 5", "see a 0 : red", "look a", "look a red",
                    "look a 0 abcdefghi", "one a 0", "one a 0 0 0", "one a 0 x", "one 0 0 a", "one c 0 0", "read b a",
                    "read b a 0", "read b b 1", "read b a 1 1", "read b c 1", "read b a x", "write a", "write a a",
                    "write a c", "write a b :", "write a b 0", "write a b : red", "write a b : 0 :",
                    "write a b : 0 : : 1", "write a b :0", "write a b : 0: 1", "write a b : 0 red big",
                    "write a b red : 0", "write a b : 0 red 1", "write", "see\ta 0", "see a 0\t", "\t", "see a 0\n",
                    "see a\u00a00", "b a 1 read", ":", "see a 1.0", "see a +1"):
            self.refused(4, ["hands a b", "see a 0 red", "  ", row, "nothing such"])

    def test_figures(self):
        for number in ("0", "1", "10", "999", "123456789", "100000000"):
            history = read_history(["hands a b", f"see a {number}"])
            self.assertEqual(history[1][0][2], int(number))
        for number in ("00", "01", "0000000001", "1000000000", "1234567890", "\u0661", "\u00b2", "1_0", "0x1"):
            self.refused(2, ["hands a b", f"see a {number}"])
            self.refused(2, ["hands a b", f"one a 0 {number}"])
            self.refused(2, ["hands a b", f"read a b {number}"])
            self.refused(2, ["hands a b", f"write a b : {number}"])

    def test_of_the_form_but_no_history(self):
        for rows, wrong in ((["look a 0"], ("done", 0)), (["see a 0", "", "one a 0 1"], ("done", 1)),
                            (["see a 0", "write a b : 0 red"], ("done", 1)), (["read a b 1"], ("done", 0)),
                            (["see a 0", "write a b : 0 : 0"], ("done", 1))):
            with self.assertRaises(NoHistory) as caught:
                read_history(["hands a b", *rows])
            self.assertEqual(caught.exception.wrong, wrong)

    def test_forms_go_ahead_of_deeds_that_can_not_be_done(self):
        self.refused(3, ["hands a b", "look a 0", "nothing such"])

    def test_printed_refuses_what_is_no_history(self):
        for thing, wrong in ((5, ("history",)), ((("a",), ()), ("hands",)), ((("a", "b"), (5,)), ("deed", 0)),
                             ((("a", "b"), (("look", "a", 0, ()),)), ("done", 0))):
            with self.assertRaises(NoHistory) as caught:
                printed(thing)
            self.assertEqual(caught.exception.wrong, wrong)


if __name__ == "__main__":
    unittest.main()
