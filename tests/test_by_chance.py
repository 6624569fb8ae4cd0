"""Point 4, and all of stage 1, of histories by chance, against a slow reading of the document."""

import unittest
from itertools import permutations
from random import Random

from saidground.histories import history_wrong
from saidground.letters import (cards_of, file_of, fits, ground, ground_file, letters, misread, name_for, public,
                                unread, unsafe)
from tests.helper import WORDS, by_chance, listed, played, public_file, subsets


def seen_by(slow, hand):
    """All that a hand has of a history: its own deeds, without things, and what it read."""
    return [(deed[0], deed[3]) if deed[0] == "see" else
            (*deed, slow.told[(deed[2], hand, deed[3])]) if deed[0] == "read" else deed
            for deed in slow.deeds if deed[1] == hand]


class ByChance(unittest.TestCase):
    def each(self, check, many, deeds=40, first=0):
        for seed in range(first, first + many):
            with self.subTest(seed=seed):
                check(seed, by_chance(seed, deeds))

    def test_files_letters_and_grounds(self):
        self.each(self.check_files, 60)
        self.each(self.check_grounds, 60)

    def check_files(self, _, slow):
        history = slow.history()
        self.assertIsNone(history_wrong(history))
        self.assertEqual(letters(history), list(slow.told.values()))
        self.assertEqual(unread(history), [key for key in slow.told if (key[0], key[2]) not in slow.read[key[1]]])
        for hand in slow.hands:
            self.assertEqual(file_of(history, hand), listed(slow.lots[hand]))
            cards = {slot: min(slow.lot(hand, card)[0]) for slot, card in sorted(slow.card_for[hand].items())}
            self.assertEqual(list(cards_of(history, hand).items()), list(cards.items()))

    def check_grounds(self, _, slow):
        history = slow.history()
        for hand, other in permutations(slow.hands, 2):
            keys = slow.ground(hand, other)
            self.assertEqual(ground(history, hand, other), tuple(
                tuple(sorted(key[2] for key in keys if key[0] == writer)) for writer in (hand, other)))
            self.assertEqual(ground_file(history, hand, other), listed(slow.ground_file(hand, other)))

    def test_public_in_any_order(self):
        self.each(self.check_public, 60, deeds=60)

    def check_public(self, seed, slow):
        for hand, other in permutations(slow.hands, 2):
            some = [told for told in slow.told.values() if {hand, other} == {*told[:2]}]
            Random(seed).shuffle(some)
            keys = frozenset(told[:3] for told in some)
            self.assertEqual(public(some), listed(public_file(slow.told, keys, slow.kept)))

    def test_no_letter_is_misread(self):
        self.each(self.check_things, 60, deeds=60, first=1000)

    def check_things(self, _, slow):
        for hand in slow.hands:
            for cards, _ in file_of(slow.history(), hand):
                self.assertEqual(len({slow.things[hand][card] for card in cards}), 1)
            for slot, card in cards_of(slow.history(), hand).items():
                meant = cards_of(slow.history(), slot[0])[slot]
                self.assertEqual(slow.things[hand][card], slow.things[slot[0]][meant])

    def test_names_are_the_least_safe_ones(self):
        self.each(self.check_names, 25, first=2000)

    def check_names(self, _, slow):
        for hand, other in permutations(slow.hands, 2):
            for card in range(len(slow.things[hand])):
                self.assertEqual(name_for(slow.history(), hand, other, card), slow.name(hand, other, card))

    def test_unsafe_and_misread(self):
        self.each(self.check_words, 25, first=3000)

    def check_words(self, seed, slow):
        for hand, other in permutations(slow.hands, 2):
            for card in range(len(slow.things[hand]))[:4]:
                for words in Random(seed).sample(subsets(WORDS[:3]), 3):
                    self.check_unsafe(slow, slow.history(), (hand, other, card, words))

    def check_unsafe(self, slow, history, asked):
        hand, other, card, words = asked
        lots = ground_file(history, hand, other)
        apart = [k for k in fits(lots, words)
                 if not {slow.card_for[hand][slot] for slot in lots[k][0]} <= slow.lot(hand, card)[0]]
        told = misread(history, *asked)
        if not fits(lots, words):
            self.assertEqual(unsafe(history, *asked), ("nothing",))
            self.assertEqual((told[0], len(told)), ("nothing", 2))
        elif apart:
            self.assertEqual(unsafe(history, *asked), ("other", apart[0]))
            self.assertEqual((told[0], told[2]), ("one", lots[apart[0]][0][0]))
        else:
            self.assertIsNone(unsafe(history, *asked))
            self.assertIsNone(told)
        if told is not None:
            self.check_least(slow, told, asked)

    def check_least(self, slow, told, asked):
        hand, other, card, words = asked
        self.assertIsNone(history_wrong(told[1]))
        least = played(told[1])
        self.assertEqual(seen_by(least, hand), seen_by(slow, hand))
        self.assertEqual(least.hands, slow.hands)
        lots = slow.lots[hand]
        self.assertEqual(len({least.things[hand][min(members)] for members, _ in lots}), len(lots))
        if told[0] == "one":
            meant = least.card_for[hand][told[2]]
            self.assertNotEqual(least.things[hand][meant], least.things[hand][card])
            fitting = least.fit(least.ground_file(hand, other), words)
            self.assertIn(told[2], [slot for slots in fitting for slot in slots])
        else:
            self.assertEqual(least.fit(least.ground_file(hand, other), words), [])
        self.assertEqual(misread(told[1], *asked), told)


if __name__ == "__main__":
    unittest.main()
