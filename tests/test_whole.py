"""Point 4, over the whole program, of histories by chance with letters late, lost and read twice."""

import unittest
from itertools import permutations
from random import Random

from saidground.faces import called, faces, hidden
from saidground.given import unheld, unheld_paper, unheld_wrong
from saidground.hands import Hand
from saidground.histories import history_wrong, printed, read_history
from saidground.letters import (cards_of, file_of, fits, ground, ground_file, letter, letters, misread, name_for,
                                public, unread, unsafe)
from saidground.papers import paper_of, paper_wrong
from saidground.posts import Post
from saidground.sayings import deepest, holds, known, since
from saidground.sides import known_together, together, together_wrong
from saidground.views import leading, leading_wrong, least_history, parted, view_of, view_wrong
from tests.helper import WORDS, by_chance, some_saying, subsets

ALL = ("ann", "bob", "cy", "dan", "eve")
# In the same order; none of them is a word of the program's own.
OTHERWISE = dict(zip(ALL + WORDS, ("al", "bea", "cleo", "dora", "ed", "apt", "dim", "fat", "raw", "shy")))


def some_histories(first, many, deeds):
    for seed in range(first, first + many):
        yield seed, by_chance(seed, deeds, ALL[:2 + seed % 4])


class NeverMisread(unittest.TestCase):
    def test_letters_late_lost_and_read_twice_are_among_them(self):
        late = lost = twice = 0
        for _, slow in some_histories(0, 20, 60):
            reads = [deed[1:] for deed in slow.deeds if deed[0] == "read"]
            twice += len(reads) - len({*reads})
            lost += len(unread(slow.history()))
            late += len([1 for k, read in enumerate(reads) for other in reads[:k]
                         if read[:2] == other[:2] and read[2] < other[2]])
        self.assertGreater(min(late, lost, twice), 20)

    def test_each_slots_two_cards_are_of_one_thing(self):
        for seed, slow in some_histories(0, 40, 80):
            history = slow.history()
            for hand in slow.hands:
                for slot, card in cards_of(history, hand).items():
                    own = cards_of(history, slot[0])[slot]
                    self.assertEqual(slow.things[hand][card], slow.things[slot[0]][own], (seed, slot))

    def test_no_lot_of_a_file_or_of_a_ground_holds_two_things(self):
        for _, slow in some_histories(40, 40, 80):
            history = slow.history()
            for hand in slow.hands:
                for cards, _ in file_of(history, hand):
                    self.assertEqual(len({slow.things[hand][card] for card in cards}), 1)
            for hand, other in permutations(slow.hands, 2):
                for slots, words in ground_file(history, hand, other):
                    things = {slow.thing(slot) for slot in slots}
                    self.assertEqual(len(things), 1)
                    self.assertLessEqual({*words}, slow.true[things.pop()])

    def test_each_is_read_the_moment_it_comes_by_itself(self):
        for _, slow in some_histories(80, 20, 60):
            post = Post(slow.hands)
            things = {hand: [] for hand in slow.hands}
            meant = {}
            for deed in slow.deeds:
                told = getattr(post, deed[0])(*deed[1:])
                kind, hand, what, last = deed
                if kind == "see":
                    things[hand].append(what)
                elif kind == "write":
                    meant[told[:3]] = [things[hand][card] for card, _ in last]
                elif kind == "read" and told is not None:
                    for card, thing in zip(told, meant[what, hand, last]):
                        if card == len(things[hand]):
                            things[hand].append(thing)
                        self.assertEqual(things[hand][card], thing)

    def test_no_lesser_description_would_do(self):
        lesser = 0
        for _, slow in some_histories(100, 12, 30):
            post = Post(slow.hands)
            for deed in slow.deeds:
                kind, hand, what, last = deed
                before = post.history()
                told = getattr(post, kind)(*deed[1:])
                for (card, _), (name, _) in zip(last, told[4]) if kind == "write" else ():
                    self.assertEqual(name_for(before, hand, what, card), name)
                    for words in subsets(WORDS[:3]):
                        if name is None or (len(words), words) < (len(name), name):
                            self.check_misread(before, (hand, what, card, words))
                            lesser += 1
        self.assertGreater(lesser, 200)

    def check_misread(self, history, asked):
        hand, other, card, words = asked
        told = misread(history, *asked)
        self.assertIsNone(history_wrong(told[1]))
        self.assertEqual(view_of(told[1], hand), view_of(history, hand))
        if told[0] == "nothing":
            self.assertEqual(fits(ground_file(told[1], hand, other), words), [])
        else:
            meant = cards_of(told[1], hand)[told[2]]
            self.assertNotIn(meant, next(cards for cards, _ in file_of(told[1], hand) if card in cards))


class WhatIsKnown(unittest.TestCase):
    def test_one_history_that_leads_into_the_one_that_is(self):
        for _, slow in some_histories(200, 15, 50):
            history = slow.history()
            for hand in slow.hands:
                least = least_history(slow.hands, view_of(history, hand))
                self.assertEqual(view_of(least, hand), view_of(history, hand))
                self.assertIsNone(leading_wrong(history, hand, leading(history, hand)))

    def test_what_holds_in_least_histories_holds(self):
        for seed, slow in some_histories(220, 20, 60):
            chance = Random(seed)
            history = slow.history()
            views = {hand: view_of(history, hand) for hand in slow.hands}
            for _ in range(10):
                saying = some_saying(chance, slow)
                hand, other = sorted(chance.sample(slow.hands, 2))
                pair = (views[hand], views[other])
                alone = known(slow.hands, views[hand], saying) or known(slow.hands, views[other], saying)
                beside = known_together(slow.hands, pair, saying)
                every = known_together(slow.hands, tuple(views.values()), saying)
                self.assertLessEqual(alone, beside)
                self.assertLessEqual(beside, every)
                self.assertLessEqual(every, holds(history, saying))
                self.assertEqual(beside, holds(together(slow.hands, pair), saying))

    def test_all_hands_together_know_all_of_letters_and_what_each_knows(self):
        for _, slow in some_histories(240, 15, 60):
            views = tuple(slow.view(hand) for hand in slow.hands)
            told = together(slow.hands, views)
            self.assertEqual(sorted(letters(told)), sorted(letters(slow.history())))
            for hand in slow.hands:
                self.assertEqual(file_of(told, hand), file_of(slow.history(), hand))
                self.assertEqual(cards_of(told, hand), cards_of(slow.history(), hand))
            self.assertEqual(sorted(unread(told)), sorted(unread(slow.history())))


def renamed(thing):
    """Anything with hands and words called otherwise."""
    if isinstance(thing, str):
        return OTHERWISE.get(thing, thing)
    if isinstance(thing, dict):
        return {renamed(key): renamed(value) for key, value in thing.items()}
    return type(thing)([renamed(part) for part in thing]) if isinstance(thing, (tuple, list)) else thing


def renumbered(history):
    """A history with things numbered otherwise."""
    return history[0], tuple((*deed[:2], number_of(deed[2]), deed[3]) if deed[0] == "see" else deed
                             for deed in history[1])


def number_of(thing):
    return 900 - 7 * thing


def told_of_history(history, chance, saying):
    """What all functions tell of a history, and of its views: rows (function, arguments); things are told apart."""
    hands = history[0]
    hand, other = chance.sample(hands, 2)
    view, beside = view_of(history, hand), view_of(history, other)
    rows = [(letters, history), (unread, history), (file_of, history, hand), (cards_of, history, hand),
            (ground, history, hand, other), (ground_file, history, hand, other), (view_of, history, hand),
            (fits, ground_file(history, hand, other), ("red",)), (least_history, hands, view),
            (view_wrong, hands, view), (parted, hands, view, (hand, view[1][:3])),
            (view_wrong, hands, (hand, view[1] + (("look", 99, ()),))), (holds, history, saying),
            (known, hands, view, saying), (since, hands, view, saying), (deepest, hands, view, saying, (other, hand)),
            (paper_of, hands, view, saying), (faces, hands, view, other), (together_wrong, hands, (view, beside)),
            (paper_wrong, hands, view, saying, paper_of(hands, view, saying)),
            (together, hands, tuple(sorted((view, beside)))),
            (known_together, hands, tuple(sorted((view, beside))), saying),
            (public, [told for told in letters(history) if {*told[:2]} == {hand, other}])]
    rows += [(letter, history, *told[:3]) for told in letters(history)[:2]]
    for card in range(len(cards_of(history, hand)))[:3]:
        if any(card in cards for cards, _ in file_of(history, hand)):
            rows += [(name_for, history, hand, other, card), (unsafe, history, hand, other, card, ("old",)),
                     (misread, history, hand, other, card, ("old",)), (called, hands, view, other, card),
                     (hidden, hands, view, other, card)]
    return rows + told_of_letters(history, hands, view)


def told_of_letters(history, hands, view):
    """What a view's letters give away."""
    rows = []
    for k, entry in enumerate(view[1]):
        if entry[0] == "read":
            slots = sorted(slot for slot in cards_of(history, view[0]) if slot[:2] == (entry[1], view[0])
                           and slot[2] <= entry[2])[:3]
            if len(slots) > 1:
                asked = (hands, view, k, tuple(slots))
                rows += [(unheld, *asked), (unheld_paper, *asked), (unheld_wrong, *asked, unheld_paper(*asked))]
    return rows


class CalledOtherwise(unittest.TestCase):
    def each(self, check):
        for seed, slow in some_histories(300, 24, 40):
            saying = some_saying(Random(seed), slow)
            check(slow.history(), told_of_history(slow.history(), Random(seed), saying))

    def test_hands_and_words_in_the_same_order(self):
        self.each(self.check_names)

    def check_names(self, history, rows):
        self.assertIsNone(history_wrong(renamed(history)))
        for function, *arguments in rows:
            told = function(*arguments)
            self.assertEqual(function(*renamed(tuple(arguments))), renamed(told), function.__name__)
            if isinstance(told, dict):
                self.assertEqual(list(function(*renamed(tuple(arguments)))), renamed(list(told)))
        for hand in history[0]:
            self.assertEqual(leading(renamed(history), renamed(hand)), renamed(leading(history, hand)))

    def test_things_numbered_otherwise(self):
        self.each(self.check_things)

    def check_things(self, history, rows):
        other = renumbered(history)
        self.assertIsNone(history_wrong(other))
        self.assertEqual(read_history(printed(other)), other)
        for function, *arguments in rows:
            if arguments[0] == history:
                self.assertEqual(function(other, *arguments[1:]), function(*arguments), function.__name__)
        for hand in history[0]:
            things, cards = leading(history, hand)
            self.assertEqual(leading(other, hand), (tuple(number_of(thing) for thing in things), cards))
            self.assertEqual(view_of(other, hand), view_of(history, hand))

    def test_posts_and_hands(self):
        for _, slow in some_histories(330, 12, 50):
            posts = [Post(slow.hands), Post(renamed(slow.hands)), Post(slow.hands)]
            hands = [{name: Hand(name, some) for name in some} for some in (slow.hands, renamed(slow.hands))]
            for deed, other in zip(slow.deeds, renumbered(slow.history())[1]):
                told = [getattr(post, deed[0])(*some[1:]) for post, some in zip(posts, (deed, renamed(deed), other))]
                self.assertEqual(told[1:], [renamed(told[0]), told[0]])
                self.check_hands(hands, deed, told[0])
            self.assertEqual(posts[1].history(), renamed(posts[0].history()))
            self.assertEqual(posts[2].history(), renumbered(posts[0].history()))

    def check_hands(self, hands, deed, told):
        kind, hand, what, last = deed
        arguments = {"see": (last,), "read": None}.get(kind, (what, last))
        if arguments is None:
            arguments = (self.there[what, hand, last],)
        if kind == "write":
            self.there[told[:3]] = told
        first = getattr(hands[0][hand], kind)(*arguments)
        self.assertEqual(first, told)
        self.assertEqual(getattr(hands[1][renamed(hand)], kind)(*renamed(arguments)), renamed(first))
        self.assertEqual(hands[1][renamed(hand)].file(), renamed(hands[0][hand].file()))

    def setUp(self):
        self.there = {}


if __name__ == "__main__":
    unittest.main()
