"""Points 2 and 6: refusals in the order told, arguments by names, and that all that is told is new."""

import copy
import inspect
import unittest

import saidground.histories
import saidground.letters
from saidground import letters as program
from saidground.errors import NoCard, NoHand, NoHistory, NoLetter
from saidground.histories import read_history

INTERFACE = {
    saidground.histories: {"history_wrong": ["thing"], "printed": ["history"], "read_history": ["text"]},
    saidground.letters: {
        "file_of": ["history", "hand"], "cards_of": ["history", "hand"], "letters": ["history"], "unread": ["history"],
        "letter": ["history", "writer", "reader", "number"], "ground": ["history", "hand", "other"],
        "ground_file": ["history", "hand", "other"], "public": ["some"], "fits": ["lots", "words"],
        "name_for": ["history", "hand", "other", "card"], "unsafe": ["history", "hand", "other", "card", "words"],
        "misread": ["history", "hand", "other", "card", "words"]}}

HISTORY = read_history(["hands ann bob cy", "see ann 0 red", "write ann bob : 0 red", "read bob ann 1",
                        "write bob ann : 0",
                        "read ann bob 1", "see ann 1", "write ann cy : 1"])
ALONE = {"letters": (), "unread": ()}
WITH_HAND = {"file_of": (), "cards_of": ()}
WITH_OTHER = {"ground": (), "ground_file": (), "name_for": (0,), "unsafe": (0, ()), "misread": (0, ()), "letter": (1,)}
WITH_CARD = {"name_for": (), "unsafe": ((),), "misread": ((),)}
NO_HANDS = ("dan", "", None, True, 0, 1, ("ann",), ["ann"], "Ann", (), [])
NO_CARDS = (2, 99, -1, True, False, None, "0", (0,), [0], [])
NO_HISTORIES = ((5, ("history",)), ([("ann", "bob"), ()], ("history",)), ((("bob", "ann"), ()), ("hands",)),
                ((("ann", "bob"), (("see", "ann", True, ()),)), ("deed", 0)),
                ((("ann", "bob"), (("see", "ann", 0, ()), ("look", "ann", 1, ()))), ("done", 1)))


class Interface(unittest.TestCase):
    def test_names_arguments_and_files(self):
        for module, functions in INTERFACE.items():
            for name, arguments in functions.items():
                function = getattr(module, name)
                self.assertEqual(function.__module__, module.__name__, name)
                self.assertEqual(list(inspect.signature(function).parameters), arguments, name)


class Refusals(unittest.TestCase):
    def refused(self, error, name, *arguments):
        with self.assertRaises(error, msg=(name, arguments)) as caught:
            getattr(program, name)(*arguments)
        self.assertIs(type(caught.exception), error)
        return caught.exception

    def test_no_history_ahead_of_all_else(self):
        for thing, wrong in NO_HISTORIES:
            for name in ALONE:
                self.assertEqual(self.refused(NoHistory, name, thing).wrong, wrong)
            for name in WITH_HAND:
                self.assertEqual(self.refused(NoHistory, name, thing, "zoe").wrong, wrong)
            for name, rest in WITH_OTHER.items():
                self.assertEqual(self.refused(NoHistory, name, thing, "zoe", "zoe", *([None] * len(rest))).wrong, wrong)

    def test_no_hand(self):
        for bad in NO_HANDS:
            for name in WITH_HAND:
                self.refused(NoHand, name, HISTORY, bad)
            for name, rest in WITH_OTHER.items():
                self.refused(NoHand, name, HISTORY, bad, "ann", *rest)
                self.refused(NoHand, name, HISTORY, "ann", bad, *rest)

    def test_the_same_hand(self):
        for name, rest in WITH_OTHER.items():
            for hand in ("ann", "bob", "cy"):
                self.refused(NoHand, name, HISTORY, hand, hand, *rest)

    def test_no_hand_ahead_of_cards_and_letters(self):
        for name, rest in WITH_CARD.items():
            for bad in NO_CARDS:
                self.refused(NoHand, name, HISTORY, "ann", "ann", bad, *rest)
                self.refused(NoHand, name, HISTORY, "zoe", "ann", bad, *rest)
        self.refused(NoHand, "letter", HISTORY, "ann", "ann", 99)
        self.refused(NoHand, "letter", HISTORY, "ann", "zoe", None)

    def test_no_card(self):
        for name, rest in WITH_CARD.items():
            for bad in NO_CARDS:
                self.refused(NoCard, name, HISTORY, "ann", "bob", bad, *rest)
            self.refused(NoCard, name, HISTORY, "bob", "ann", 1, *rest)
            self.refused(NoCard, name, HISTORY, "cy", "ann", 0, *rest)

    def test_no_letter(self):
        for bad in (2, 0, -1, True, False, None, "1", (1,), [1], [], (), 10 ** 12):
            self.assertEqual(self.refused(NoLetter, "letter", HISTORY, "ann", "bob", bad).wrong, ("unwritten",))
        self.assertEqual(self.refused(NoLetter, "letter", HISTORY, "bob", "cy", 1).wrong, ("unwritten",))
        self.assertEqual(self.refused(NoLetter, "letter", HISTORY, "cy", "ann", 1).wrong, ("unwritten",))


class New(unittest.TestCase):
    def calls(self):
        yield from ((name, (HISTORY,)) for name in ALONE)
        yield from ((name, (HISTORY, "ann")) for name in WITH_HAND)
        yield from ((name, (HISTORY, "ann", "bob", *rest)) for name, rest in WITH_OTHER.items())
        yield "public", ([program.letter(HISTORY, "ann", "bob", 1)],)
        yield "fits", (program.ground_file(HISTORY, "ann", "bob"), ())

    def test_what_is_told_is_new_each_time(self):
        for name, arguments in self.calls():
            before = copy.deepcopy(arguments)
            told = getattr(program, name)(*arguments)
            kept = copy.deepcopy(told)
            if isinstance(told, (list, dict)):
                told.clear()
            self.assertEqual(getattr(program, name)(*arguments), kept, name)
            self.assertEqual(arguments, before, name)

    def test_by_names_and_in_another_order(self):
        for name, arguments in self.calls():
            function = getattr(program, name)
            named = dict(zip(list(inspect.signature(function).parameters), arguments))
            self.assertEqual(function(**dict(list(named.items())[::-1])), function(*arguments), name)

    def test_kinds_of_what_is_told(self):
        self.assertEqual(program.file_of(HISTORY, "ann"), [((0,), ("red",)), ((1,), ())])
        self.assertIs(type(program.cards_of(HISTORY, "ann")), dict)
        told = program.ground(HISTORY, "ann", "bob")
        self.assertEqual((type(told), told), (tuple, ((1,), (1,))))
        for lot in program.ground_file(HISTORY, "ann", "bob"):
            self.assertEqual([type(part) for part in lot], [tuple, tuple])


if __name__ == "__main__":
    unittest.main()
