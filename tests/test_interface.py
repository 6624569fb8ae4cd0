"""Points 2 and 6 of views and all behind them: the interface's names, and that all that is told is new."""

import copy
import inspect
import unittest

import saidground.faces
import saidground.given
import saidground.hands
import saidground.papers
import saidground.posts
import saidground.sayings
import saidground.sides
import saidground.views
from saidground.errors import NoHands
from saidground.histories import read_history
from saidground.views import view_of

INTERFACE = {
    saidground.views: {
        "view_of": ["history", "hand"], "least_history": ["hands", "view"], "view_wrong": ["hands", "thing"],
        "parted": ["hands", "one", "other"], "leading": ["history", "hand"],
        "leading_wrong": ["history", "hand", "thing"]},
    saidground.sayings: {
        "holds": ["history", "saying"], "known": ["hands", "view", "saying"], "since": ["hands", "view", "saying"],
        "deepest": ["hands", "view", "saying", "others"]},
    saidground.papers: {"paper_of": ["hands", "view", "saying"], "paper_wrong": ["hands", "view", "saying", "thing"]},
    saidground.faces: {
        "faces": ["hands", "view", "other"], "called": ["hands", "view", "other", "card"],
        "hidden": ["hands", "view", "other", "card"]},
    saidground.given: {
        "unheld": ["hands", "view", "entry", "slots"], "unheld_paper": ["hands", "view", "entry", "slots"],
        "unheld_wrong": ["hands", "view", "entry", "slots", "thing"]},
    saidground.sides: {
        "together": ["hands", "views"], "together_wrong": ["hands", "thing"],
        "known_together": ["hands", "views", "saying"]}}
HAND = {"see": ["words"], "look": ["card", "words"], "one": ["card", "other"], "write": ["to", "lines"],
        "read": ["letter"], "file": [], "ground": ["other"], "kept": ["other"], "copy": []}
POST = {"see": ["hand", "thing", "words"], "look": ["hand", "card", "words"], "one": ["hand", "card", "other"],
        "write": ["hand", "to", "lines"], "read": ["hand", "writer", "number"], "back": [], "history": [],
        "on_way": ["hand"], "copy": [], "__eq__": ["other"], "__len__": []}

HANDS = ("ann", "bob")
HISTORY = read_history(["hands ann bob", "see ann 0 red", "write ann bob : 0 red", "read bob ann 1",
                        "write bob ann : 0",
                        "read ann bob 1"])
VIEW = view_of(HISTORY, "ann")
VIEWS = (VIEW, view_of(HISTORY, "bob"))
SLOTS = (("ann", "bob", 1, 0), ("bob", "ann", 1, 0))
SAYING = ("one", ("ann", "bob", 1, 0), ("bob", "ann", 1, 0))
UNKNOWN = ("read", "bob", "ann", 9)
# Two things told alike: neither can be named.
COVERED = view_of(read_history(["hands ann bob", "see ann 0 red", "see ann 1 red", "write ann bob : 0 red : 1 red",
                                "read bob ann 1", "write bob ann", "read ann bob 1"]), "ann")
CALLS = (("view_of", (HISTORY, "bob")), ("least_history", (HANDS, VIEW)), ("view_wrong", (HANDS, ["ann", []])),
         ("view_wrong", (HANDS, ("ann", [("see", ["red"])]))), ("parted", (HANDS, VIEW, ("ann", ()))),
         ("leading", (HISTORY, "ann")),
         ("leading_wrong", (HISTORY, "ann", ([0], [["bob", 0, 0]]))), ("holds", (HISTORY, SAYING)),
         ("known", (HANDS, VIEW, SAYING)),
         ("since", (HANDS, VIEW, SAYING)), ("deepest", (HANDS, VIEW, SAYING, ("bob", "ann"))),
         ("paper_of", (HANDS, VIEW, SAYING)),
         ("paper_of", (HANDS, VIEW, UNKNOWN)), ("paper_wrong", (HANDS, VIEW, SAYING, ("yes", ("joins", [[]])))),
         ("paper_wrong", (HANDS, VIEW, UNKNOWN, ("no", [["ann", "bob"], []]))),
         ("faces", (HANDS, VIEW, "bob")), ("called", (HANDS, VIEW, "bob", 0)), ("hidden", (HANDS, COVERED, "bob", 0)),
         ("unheld", (HANDS, VIEW, 2, SLOTS)), ("unheld_paper", (HANDS, VIEW, 2, SLOTS)),
         ("unheld_wrong", (HANDS, VIEW, 2, SLOTS, ("no", [["ann", "bob"], []]))),
         ("unheld_wrong", (HANDS, VIEW, 2, SLOTS, ["yes", [[]]])), ("together", (HANDS, VIEWS)),
         ("together_wrong", (HANDS, [["ann", []]])), ("together_wrong", (HANDS, (VIEW, ["bob", []]))),
         ("known_together", (HANDS, VIEWS, SAYING)))


def function(name):
    return next(getattr(module, name) for module, functions in INTERFACE.items() if name in functions)


class Interface(unittest.TestCase):
    def test_names_arguments_and_files(self):
        for module, functions in INTERFACE.items():
            for name, arguments in functions.items():
                self.assertEqual(function(name).__module__, module.__name__)
                self.assertEqual(list(inspect.signature(function(name)).parameters), arguments, name)

    def test_hands_and_posts(self):
        for made, arguments, methods in ((saidground.hands.Hand, ["name", "hands"], HAND),
                                         (saidground.posts.Post, ["hands"], POST)):
            self.assertIn(made.__module__, ("saidground.hands", "saidground.posts"))
            self.assertEqual(list(inspect.signature(made).parameters), arguments)
            for name, more in methods.items():
                self.assertEqual(list(inspect.signature(vars(made)[name]).parameters), ["self", *more], name)


class Told(unittest.TestCase):
    def test_the_same_again_and_nothing_handed_in_is_changed(self):
        for name, arguments in CALLS:
            before = copy.deepcopy(arguments)
            told = function(name)(*arguments)
            kept = copy.deepcopy(told)
            if isinstance(told, list):
                told.clear()
            self.assertEqual(function(name)(*arguments), kept, name)
            self.assertEqual(arguments, before, name)

    def test_by_names_and_in_another_order(self):
        for name, arguments in CALLS:
            named = dict(zip(list(inspect.signature(function(name)).parameters), arguments))
            self.assertEqual(function(name)(**dict(list(named.items())[::-1])), function(name)(*arguments), name)

    def test_kinds(self):
        for name, arguments in CALLS:
            told = function(name)(*arguments)
            if name in ("holds", "known", "known_together"):
                self.assertIs(told, True)
            elif name == "unheld":
                self.assertIs(told, False)
            elif name in ("faces", "hidden"):
                self.assertIs(type(told), list)
                self.assertTrue(told and all(type(row) is tuple for row in told))
            elif name in ("since", "deepest", "parted"):
                self.assertIs(type(told), int)
            else:
                self.assertIs(type(told), tuple, name)

    def test_what_was_told_may_be_handed_in_again(self):
        least = saidground.views.least_history(HANDS, VIEW)
        self.assertEqual(saidground.views.view_of(least, "ann"), VIEW)
        for name in ("leading", "paper_of"):
            told = function(name)(HISTORY, "ann") if name == "leading" else function(name)(HANDS, VIEW, SAYING)
            self.assertIsNone(function("leading_wrong")(HISTORY, "ann", told) if name == "leading" else
                              function("paper_wrong")(HANDS, VIEW, SAYING, told))
        told = function("together")(HANDS, VIEWS)
        self.assertEqual(tuple(view_of(told, hand) for hand in HANDS), VIEWS)
        told = function("unheld_paper")(HANDS, VIEW, 2, SLOTS)
        self.assertIsNone(function("unheld_wrong")(HANDS, VIEW, 2, SLOTS, told))

    def test_of_any_length_again(self):
        # Three hands' letters up to 60 make a least history of over 200 deeds.
        hands = ("ann", "bob", "cy")
        names = tuple(("cy", number) for number in range(1, 61))
        view = ("ann", tuple(("read", "bob", number, names, ()) for number in range(60, 0, -1)))
        told = function("together")(hands, (view,))
        self.assertEqual(len(told[1]), 4 * 60)
        self.assertEqual(told, function("least_history")(hands, view))
        views = tuple(view_of(told, hand) for hand in hands)
        self.assertEqual([len(some[1]) for some in views], [60, 120, 60])
        again = function("together")(hands, views)
        self.assertEqual(tuple(view_of(again, hand) for hand in hands), views)
        self.assertIs(function("known_together")(hands, views, ("read", "cy", "bob", 60)), True)

    def test_what_is_done_behind_a_call_changes_nothing(self):
        lines = ((0, ("red",)),)
        hand = saidground.hands.Hand("ann", HANDS)
        hand.see(("red",))
        letter = hand.write("bob", lines)
        hand.file().append(5)
        hand.ground("bob").append(5)
        self.assertEqual(letter, ("ann", "bob", 1, (), ((None, ("red",)),)))
        self.assertEqual(hand.file(), [((0,), ("red",))])


class Hands(unittest.TestCase):
    def test_no_hands_ahead_of_all_else(self):
        calls = [(name, ["none"] * (len(arguments) - 1)) for functions in INTERFACE.values()
                 for name, arguments in functions.items() if arguments[0] == "hands"]
        self.assertEqual(len(calls), 17)
        for name, rest in calls:
            for bad in (None, True, 5, "ann", (), ("ann",), ["ann", "bob"], ("bob", "ann"), ("ann", "ann"), ("ann", 5),
                        ("ann", "Bob"),
                        ("a", "b", "c", "d", "e", "f"), ("ann", "toolongaa"), (("ann",), "bob")):
                with self.assertRaises(NoHands) as caught:
                    function(name)(bad, *rest)
                self.assertIs(type(caught.exception), NoHands)


if __name__ == "__main__":
    unittest.main()
