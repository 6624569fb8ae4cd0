"""Points 2 and 6 of views, sayings, papers and hands: the interface's names, and that all that is told is new."""

import copy
import inspect
import unittest

import saidground.hands
import saidground.papers
import saidground.sayings
import saidground.views
from saidground.errors import NoHands
from saidground.histories import read_history
from saidground.views import view_of

INTERFACE = {
    saidground.views: {
        "view_of": ["history", "hand"], "least_history": ["hands", "view"], "view_wrong": ["hands", "thing"],
        "parted": ["hands", "one", "other"], "leading": ["history", "hand"],
        "leading_wrong": ["history", "hand", "thing"]},
    saidground.sayings: {
        "holds": ["history", "saying"], "known": ["hands", "view", "saying"], "since": ["hands", "view", "saying"],
        "deepest": ["hands", "view", "saying", "others"]},
    saidground.papers: {"paper_of": ["hands", "view", "saying"], "paper_wrong": ["hands", "view", "saying", "thing"]}}
METHODS = {"see": ["words"], "look": ["card", "words"], "one": ["card", "other"], "write": ["to", "lines"],
           "read": ["letter"],
           "file": [], "ground": ["other"], "kept": ["other"], "copy": []}

HANDS = ("ann", "bob")
HISTORY = read_history(["hands ann bob", "see ann 0 red", "write ann bob : 0 red", "read bob ann 1",
                        "write bob ann : 0",
                        "read ann bob 1"])
VIEW = view_of(HISTORY, "ann")
SAYING = ("one", ("ann", "bob", 1, 0), ("bob", "ann", 1, 0))
UNKNOWN = ("read", "bob", "ann", 9)
CALLS = (("view_of", (HISTORY, "bob")), ("least_history", (HANDS, VIEW)), ("view_wrong", (HANDS, ["ann", []])),
         ("view_wrong", (HANDS, ("ann", [("see", ["red"])]))), ("parted", (HANDS, VIEW, ("ann", ()))),
         ("leading", (HISTORY, "ann")),
         ("leading_wrong", (HISTORY, "ann", ([0], [["bob", 0, 0]]))), ("holds", (HISTORY, SAYING)),
         ("known", (HANDS, VIEW, SAYING)),
         ("since", (HANDS, VIEW, SAYING)), ("deepest", (HANDS, VIEW, SAYING, ("bob", "ann"))),
         ("paper_of", (HANDS, VIEW, SAYING)),
         ("paper_of", (HANDS, VIEW, UNKNOWN)), ("paper_wrong", (HANDS, VIEW, SAYING, ("yes", ("joins", [[]])))),
         ("paper_wrong", (HANDS, VIEW, UNKNOWN, ("no", [["ann", "bob"], []]))))


def function(name):
    return next(getattr(module, name) for module, functions in INTERFACE.items() if name in functions)


class Interface(unittest.TestCase):
    def test_names_arguments_and_files(self):
        for module, functions in INTERFACE.items():
            for name, arguments in functions.items():
                self.assertEqual(function(name).__module__, module.__name__)
                self.assertEqual(list(inspect.signature(function(name)).parameters), arguments, name)

    def test_hands(self):
        made = saidground.hands.Hand
        self.assertEqual(made.__module__, "saidground.hands")
        self.assertEqual(list(inspect.signature(made).parameters), ["name", "hands"])
        for name, arguments in METHODS.items():
            self.assertEqual(list(inspect.signature(vars(made)[name]).parameters), ["self", *arguments], name)


class Told(unittest.TestCase):
    def test_the_same_again_and_nothing_handed_in_is_changed(self):
        for name, arguments in CALLS:
            before = copy.deepcopy(arguments)
            told = function(name)(*arguments)
            kept = copy.deepcopy(told)
            self.assertEqual(function(name)(*arguments), kept, name)
            self.assertEqual(arguments, before, name)

    def test_by_names_and_in_another_order(self):
        for name, arguments in CALLS:
            named = dict(zip(list(inspect.signature(function(name)).parameters), arguments))
            self.assertEqual(function(name)(**dict(list(named.items())[::-1])), function(name)(*arguments), name)

    def test_kinds(self):
        for name, arguments in CALLS:
            told = function(name)(*arguments)
            if name in ("holds", "known"):
                self.assertIs(told, True)
            elif name in ("since", "deepest", "parted"):
                self.assertIs(type(told), int)
            else:
                self.assertIs(type(told), tuple, name)

    def test_what_was_told_may_be_handed_in_again(self):
        least = saidground.views.least_history(HANDS, VIEW)
        self.assertEqual(saidground.views.view_of(least, "ann"), VIEW)
        for name in ("leading", "paper_of"):
            told = function(name)(HISTORY, "ann") if name == "leading" else function(name)(HANDS, VIEW, SAYING)
            self.assertIsNone(function("leading_wrong")(HISTORY, "ann", told) if name == "leading" else
                              function("paper_wrong")(HANDS, VIEW, SAYING, told))

    def test_what_is_done_behind_a_call_changes_nothing(self):
        lines = ((0, ("red",)),)
        hand = saidground.hands.Hand("ann", HANDS)
        hand.see(("red",))
        letter = hand.write("bob", lines)
        hand.file().append(5)
        hand.ground("bob").append(5)
        self.assertEqual(letter, ("ann", "bob", 1, (), ((None, ("red",)),)))
        self.assertEqual(hand.file(), [((0,), ("red",))])


class Hands(unittest.TestCase):
    def test_no_hands_ahead_of_all_else(self):
        calls = [(name, ["none"] * (len(arguments) - 1)) for functions in INTERFACE.values()
                 for name, arguments in functions.items() if arguments[0] == "hands"]
        self.assertEqual(len(calls), 8)
        for name, rest in calls:
            for bad in (None, True, 5, "ann", (), ("ann",), ["ann", "bob"], ("bob", "ann"), ("ann", "ann"), ("ann", 5),
                        ("ann", "Bob"),
                        ("a", "b", "c", "d", "e", "f"), ("ann", "toolongaa"), (("ann",), "bob")):
                with self.assertRaises(NoHands) as caught:
                    function(name)(bad, *rest)
                self.assertIs(type(caught.exception), NoHands)


if __name__ == "__main__":
    unittest.main()
