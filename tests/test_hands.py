"""Points 40 and 41: hands by themselves, what they refuse, and what they keep."""

import time
import unittest
from random import Random

from saidground.errors import NoCard, NoHand, NoHands, NoLetter, NoLines, NoWords, SaidError
from saidground.hands import Hand
from saidground.histories import read_history
from saidground.letters import file_of, ground_file, letters
from saidground.views import view_of, view_wrong
from tests.helper import WORDS, Alone, Slow, by_chance, ground_of, public_file, some_words, subsets

HANDS = ("ann", "bob", "cy")


def do(hand, name, entry):
    """What a Hand tells of an entry of its view."""
    kind, *rest = entry
    return hand.read((rest[0], name, *rest[1:])) if kind == "read" else getattr(hand, kind)(*rest)


def told(view, hands=HANDS):
    """A Hand that was told all of a view."""
    hand = Hand(view[0], hands)
    for entry in view[1]:
        do(hand, view[0], entry)
    return hand


def stands(hand, name, hands=HANDS):
    """All that a Hand can be asked."""
    others = [other for other in hands if other != name]
    return hand.file(), [(hand.ground(other), hand.kept(other)) for other in others]


class Deeds(unittest.TestCase):
    def test_see_look_and_one(self):
        hand = Hand("ann", HANDS)
        self.assertEqual([hand.see(("red",)), hand.see(()), hand.see(words=("old", "wet"))], [0, 1, 2])
        self.assertIsNone(hand.look(1, ("big",)))
        self.assertIsNone(hand.look(words=("big",), card=1))
        self.assertEqual(hand.file(), [((0,), ("red",)), ((1,), ("big",)), ((2,), ("old", "wet"))])
        self.assertIsNone(hand.one(2, 0))
        self.assertIsNone(hand.one(other=0, card=2))
        self.assertIsNone(hand.one(1, 1))
        self.assertEqual(hand.file(), [((0, 2), ("old", "red", "wet")), ((1,), ("big",))])

    def test_write(self):
        hand = Hand(hands=HANDS, name="bob")
        hand.see(("big", "red"))
        self.assertEqual(hand.write("ann", ((0, ("red",)),)), ("bob", "ann", 1, (), ((None, ("red",)),)))
        self.assertEqual(hand.write(lines=((0, ()),), to="ann"), ("bob", "ann", 2, (), ((None, ()),)))
        self.assertEqual(hand.write("cy", ()), ("bob", "cy", 1, (), ()))
        self.assertEqual(hand.write("cy", ()), ("bob", "cy", 2, (), ()))

    def test_read(self):
        hand = Hand("bob", HANDS)
        hand.see(())
        self.assertEqual(hand.read(("ann", "bob", 1, (), ((None, ("red",)), (None, ("old",))))), [1, 2])
        self.assertEqual(hand.read(letter=("cy", "bob", 3, (), ())), [])
        self.assertEqual(hand.write("ann", ((1, ()), (0, ()))),
                         ("bob", "ann", 1, (("ann", 1), ("cy", 3)), ((("red",), ()), (None, ()))))
        self.assertEqual(hand.read(("ann", "bob", 2, (("bob", 1),), ((("old",), ("wet",)), (None, ())))), [2, 3])
        self.assertEqual(hand.file(), [((0,), ()), ((1,), ("red",)), ((2,), ("old", "wet")), ((3,), ())])

    def test_read_tells_the_least_cards_behind_the_whole_letter(self):
        hand = Hand("ann", HANDS)
        for words in (("big", "red"), ("big", "old"), ("wet",)):
            hand.see(words)
        hand.write("bob", ((2, ("wet",)), (1, ("big", "old")), (0, ("big", "red"))))
        self.assertEqual(hand.copy().read(("bob", "ann", 1, (("ann", 1),), ((("big",), ()), (None, ())))), [0, 3])
        # What is wet is one with what is old for ann alone: by bob's second line it is one with all that is big.
        hand = Hand("ann", HANDS)
        for words in (("big", "red"), ("wet",), ("big", "old")):
            hand.see(words)
        hand.write("bob", ((0, ("big", "red")), (1, ("wet",)), (2, ("big", "old"))))
        hand.one(1, 2)
        self.assertEqual(hand.read(("bob", "ann", 1, (("ann", 1),), ((("wet",), ()), (("big",), ())))), [0, 0])
        self.assertEqual(hand.file(), [((0, 1, 2), ("big", "old", "red", "wet"))])

    def test_read_again(self):
        hand = Hand("bob", HANDS)
        self.assertEqual(hand.read(("ann", "bob", 2, (), ((None, ("red",)),))), [0])
        for again in (("ann", "bob", 2, (), ((None, ("red",)),)), ("ann", "bob", 2, (), ()),
                      ("ann", "bob", 2, (("bob", 60),), ((("old",), ()),))):
            self.assertIsNone(hand.read(again))
        self.assertEqual(hand.file(), [((0,), ("red",))])
        self.assertEqual(hand.read(("cy", "bob", 2, (), ((None, ("red",)),))), [1])

    def test_ground(self):
        hand = Hand("ann", HANDS)
        hand.see(("red",))
        hand.see(("red",))
        hand.see(("old",))
        hand.write("bob", ((2, ()), (1, ("red",)), (0, ("red",))))
        self.assertEqual(hand.ground("bob"), [])
        hand.read(("bob", "ann", 2, (("ann", 1),), ()))
        self.assertEqual(hand.ground("bob"), [((), 2), (("red",), 0), (("red",), 1)])
        self.assertEqual(hand.ground(other="cy"), [])
        hand.one(1, 0)
        self.assertEqual(hand.ground("bob"), [((), 2), (("red",), 0), (("red",), 0)])

    def test_what_is_told_is_new(self):
        hand = Hand("ann", HANDS)
        hand.see(("red",))
        hand.write("bob", ((0, ("red",)),))
        cards = hand.read(("bob", "ann", 1, (("ann", 1),), (((), ("wet",)),)))
        for row in (cards, hand.file(), hand.ground("bob")):
            self.assertIs(type(row), list)
            row.clear()
        self.assertEqual(hand.file(), [((0,), ("red", "wet"))])
        self.assertEqual(hand.ground("bob"), [(("red", "wet"), 0)])


class Refused(unittest.TestCase):
    def setUp(self):
        self.hand = Hand("ann", HANDS)
        for words in (("big", "red"), ("old",), ("wet",)):
            self.hand.see(words)
        self.hand.one(1, 2)
        self.hand.write("bob", ((0, ("big", "red")), (1, ("old",))))

    def refused(self, error, method, *arguments):
        before = stands(self.hand, "ann")
        with self.assertRaises(error, msg=arguments) as caught:
            getattr(self.hand, method)(*arguments)
        self.assertIs(type(caught.exception), error)
        self.assertEqual(stands(self.hand, "ann"), before)
        return caught.exception

    def test_new_hands(self):
        for bad in (None, True, 5, "ann", (), ("ann",), ["ann", "bob"], ("bob", "ann"), ("ann", "ann"), ("ann", 5),
                    ("ann", "Bob"), ("a", "b", "c", "d", "e", "f")):
            for name in ("ann", "nobody", None):
                with self.assertRaises(NoHands):
                    Hand(name, bad)
        for bad in ("dan", "", None, True, 5, 0, ["ann"], ("ann",), HANDS):
            with self.assertRaises(NoHand):
                Hand(bad, HANDS)

    def test_words(self):
        for bad in (None, True, 5, "red", ["red"], ("red", "old"), ("red", "red"), ("Red",), ("",), (5,),
                    ("toolongaa",)):
            self.refused(NoWords, "see", bad)
            self.refused(NoWords, "look", 0, bad)
            self.refused(NoCard, "look", 9, bad)

    def test_cards(self):
        for bad in (3, 99, -1, True, False, None, "0", (0,), [0], 10 ** 30):
            self.refused(NoCard, "look", bad, ("red",))
            self.refused(NoCard, "look", bad, "no words")
            self.refused(NoCard, "one", bad, 0)
            self.refused(NoCard, "one", 0, bad)
            self.refused(NoCard, "one", bad, bad)

    def test_other_hands(self):
        for bad in ("dan", "", None, True, 5, ["bob"], ("bob",), "ann", HANDS):
            self.refused(NoHand, "write", bad, ())
            self.refused(NoHand, "write", bad, "no lines")
            self.refused(NoHand, "write", bad, ((9, ()),))
            self.refused(NoHand, "ground", bad)
            self.refused(NoHand, "kept", bad)

    def test_lines(self):
        for bad in (None, True, 5, "lines", [], (0, ()), ((0,),), ((0, (), ()),), ([0, ()],), (None,), ((True, ()),),
                    ((-1, ()),),
                    ((None, ()),), (("0", ()),), ((0, None),), ((0, ("red", "big")),), ((0, ["red"]),),
                    ((0, ("Red",)),)):
            self.refused(NoLines, "write", "bob", bad)
            if isinstance(bad, tuple):
                self.refused(NoLines, "write", "bob", ((9, ()), (0, ()), (0, ())) + bad)
        for bad in (((3, ()),), ((0, ()), (3, ())), ((3, ()), (0, ()), (0, ())), ((0, ()), (0, ()), (3, ())),
                    ((0, ("old",)), (3, ()))):
            self.refused(NoCard, "write", "bob", bad)
        for bad in (((0, ()), (0, ())), ((1, ()), (0, ()), (2, ())), ((0, ("old",)),), ((0, ("zzz",)),),
                    ((0, ()), (1, ("red",)))):
            self.refused(NoLines, "write", "bob", bad)
        self.hand.write("bob", ((0, ("big",)), (2, ("old", "wet"))))

    def test_no_letter_by_form(self):
        good = ("bob", "ann", 1, (("ann", 1),), ((("big",), ()),))
        for bad in (None, True, 5, "letter", (), good[:4], good + ((),), list(good), (*good[:4], [((), ())]),
                    (*good[:4], None),
                    (*good[:3], None, ()), (*good[:3], [], ())):
            self.assertEqual(self.refused(NoLetter, "read", bad).wrong, ("form",), bad)
        for k, values in ((0, ("ann", "dan", "", None, 5, "Bob", ["bob"])),
                          (1, ("bob", "cy", "dan", None, "", 5, ["ann"])),
                          (2, (0, 61, -1, True, False, None, "1", [1]))):
            for value in values:
                bad = good[:k] + (value,) + good[k + 1:]
                self.assertEqual(self.refused(NoLetter, "read", bad).wrong, ("form",), bad)
        for names in ((("bob", 1),), (("dan", 1),), (("ann", 0),), (("ann", 61),), (("ann", True),),
                      (("cy", 1), ("ann", 1)),
                      (("ann", 1), ("ann", 1)), (("ann",),), (("ann", 1, 1),), (["ann", 1],), (None,), ((None, 1),),
                      (("ann", "1"),)):
            bad = (*good[:3], names, ())
            self.assertEqual(self.refused(NoLetter, "read", bad).wrong, ("form",), bad)
        for line in (None, ((),), ((), (), ()), [(), ()], (0, ()), ("red", ()), (("red", "big"), ()), (["red"], ()),
                     (None, None),
                     (None, "red"), (None, ["red"]), (None, ("red", "big")), (True, ()), (None, ("Red",))):
            bad = (*good[:4], (line,))
            self.assertEqual(self.refused(NoLetter, "read", bad).wrong, ("form",), bad)
        self.assertEqual(self.hand.read(good), [0])
        self.assertEqual(self.refused(NoLetter, "read", (*good[:4], None)).wrong, ("form",))
        self.assertIsNone(self.hand.read((*good[:4], ())))

    def test_numbers_up_to_sixty(self):
        self.assertEqual(self.hand.read(("bob", "ann", 60, (("cy", 60),), ())), [])

    def test_names(self):
        self.hand.write("bob", ())
        self.assertEqual(self.hand.read(("bob", "ann", 4, (("ann", 1), ("cy", 2)), ())), [])
        for number, names, good in (
                (1, (("ann", 3),), False), (5, (("ann", 1), ("ann", 3), ("cy", 2)), False),
                (5, (("ann", 1), ("cy", 2)), True), (5, (("ann", 1), ("ann", 2), ("cy", 2), ("cy", 3)), True),
                (5, (("ann", 1),), False), (5, (("cy", 2),), False), (5, (("ann", 2), ("cy", 2)), False),
                (5, (), False),
                (3, (("ann", 1), ("cy", 2)), True), (3, (("cy", 2),), True), (3, (), True),
                (3, (("ann", 1), ("ann", 2), ("cy", 2)), False), (3, (("ann", 1), ("cy", 1)), False),
                (3, (("ann", 2),), False)):
            letter = ("bob", "ann", number, names, ())
            if good:
                self.assertEqual(self.hand.copy().read(letter), [])
            else:
                self.assertEqual(self.refused(NoLetter, "read", letter).wrong, ("names",), letter)
                self.assertEqual(self.refused(NoLetter, "read", (*letter[:4], (((), ()),))).wrong, ("names",), letter)

    def test_names_beside_those_of_a_letter_without_a_gap(self):
        self.hand.read(("bob", "ann", 1, (("ann", 1), ("cy", 2)), ()))
        self.hand.read(("bob", "ann", 2, (("ann", 1), ("cy", 2), ("cy", 7)), ()))
        for names in ((("ann", 1), ("cy", 2)), (("ann", 1), ("cy", 7)), (("cy", 2), ("cy", 7)), ()):
            self.assertEqual(self.refused(NoLetter, "read", ("bob", "ann", 3, names, ())).wrong, ("names",))
        self.assertEqual(self.hand.read(("bob", "ann", 3, (("ann", 1), ("cy", 2), ("cy", 7)), ())), [])

    def test_a_line_that_nothing_fits(self):
        for names, lines, k in (((), (((), ()),), 0), ((), ((None, ()), (("red",), ())), 1),
                                ((("ann", 1),), ((("wet",), ()),), 0),
                                ((("ann", 1),), ((("big",), ()), (("big",), ()), (("wet",), ())), 2),
                                ((("ann", 1),), ((("big",), ()), (("big", "old"), ()), (("wet",), ())), 1)):
            self.assertEqual(self.refused(NoLetter, "read", ("bob", "ann", 1, names, lines)).wrong, ("line", k), lines)
        self.assertEqual(self.hand.read(("bob", "ann", 1, (("ann", 1),), ((("big",), ()), (("old",), ())))), [0, 1])

    def test_a_lesser_name(self):
        names = (("ann", 1),)
        for told_of, k in (([("red",)], 0), ([("big", "red")], 0), ([("big",), ("big",)], 1), ([(), ("old",)], 1),
                           ([("old",), ()], 0), ([None, (), ()], 2), ([("big",), None, ("old",), ("big",)], 3)):
            letter = ("bob", "ann", 2, names, tuple((name, ()) for name in told_of))
            self.assertEqual(self.refused(NoLetter, "read", letter).wrong, ("lesser", 2, k), told_of)
        self.assertEqual(self.hand.read(("bob", "ann", 2, names, ((None, ()), ((), ("zzz",))))), [3, 0])
        self.assertEqual(self.hand.file(), [((0, 1, 2), ("big", "old", "red", "wet", "zzz")), ((3,), ())])

    def test_a_lesser_name_in_a_letter_read_ahead(self):
        names = (("ann", 1),)
        for number, lines in ((3, ((None, ()), (("old",), ()))), (5, ((("big",), ()), (("old",), ()))),
                              (4, ((("big",), ()),))):
            self.hand.read(("bob", "ann", number, names, lines))
        # Were the two one by an earlier letter, what is told there would be "it".
        for number in (1, 2):
            letter = ("bob", "ann", number, names, (((), ()),))
            self.assertEqual(self.refused(NoLetter, "read", letter).wrong, ("lesser", 3, 1))
        letter = ("bob", "ann", 6, names, (((), ()), (("big",), ())))
        self.assertEqual(self.refused(NoLetter, "read", letter).wrong, ("lesser", 6, 1))
        self.assertEqual(self.hand.copy().read(("bob", "ann", 6, names, (((), ()),))), [0])
        self.assertEqual(self.hand.copy().read(("bob", "ann", 2, names, ((("big",), ()), (("old",), ())))), [0, 1])

    def test_one_with_a_line_ahead_in_a_letter_read_ahead(self):
        for first, second, k in ((("old",), ("red",), 1), (("red",), ("old",), 0)):
            hand = self.hand = Hand("ann", HANDS)
            for words in (("big", "red"), ("big", "old"), ("wet",), ("big",)):
                hand.see(words)
            hand.write("bob", ((0, ("big", "red")), (1, ("big", "old")), (2, ("wet",))))
            hand.write("bob", ((3, ("big",)),))
            hand.read(("bob", "ann", 2, (("ann", 1), ("ann", 2)), ((first, ()), (second, ()))))
            # By letter 1 both are one; for the third that is big, what is old is still the least that tells them.
            letter = ("bob", "ann", 1, (("ann", 1),), ((("big",), ()),))
            self.assertEqual(self.refused(NoLetter, "read", letter).wrong, ("lesser", 2, k))
            self.assertEqual(hand.read(("bob", "ann", 1, (("ann", 1),), ((("red",), ("tall",)), (("wet",), ())))),
                             [0, 2])

    def test_a_letter_that_is_refused_may_come_as_it_was_written(self):
        self.refused(NoLetter, "read", ("bob", "ann", 1, (("ann", 1),), ((("wet",), ()),)))
        self.refused(NoLetter, "read", ("bob", "ann", 1, (("ann", 2),), ()))
        self.assertEqual(self.hand.read(("bob", "ann", 1, (("ann", 1),), ((("big",), ()),))), [0])
        self.assertIsNone(self.hand.read(("bob", "ann", 1, (("ann", 1),), ((("wet",), ()),))))


class Kept(unittest.TestCase):
    def test_ahead_of_within_and_behind_a_gap(self):
        hand = Hand("ann", HANDS)
        hand.see(("red",))
        self.assertEqual(hand.kept("bob"), 0)
        hand.write("bob", ((0, ("red",)),))
        hand.write("bob", ())
        self.assertEqual(hand.kept("bob"), 2)
        # The first letter is laid together as bob tells of it; his own is kept.
        hand.read(("bob", "ann", 1, (("ann", 1),), ()))
        self.assertEqual(hand.kept("bob"), 2)
        hand.write("bob", ((0, ()),))
        self.assertEqual(hand.kept("bob"), 3)
        # Letter 2 is lost yet: nothing is laid together by letters 3 and 4.
        hand.read(("bob", "ann", 3, (("ann", 1), ("ann", 2), ("ann", 3)), (((), ()),)))
        self.assertEqual(hand.kept("bob"), 4)
        hand.read(("bob", "ann", 4, (("ann", 1), ("ann", 2), ("ann", 3)), (((), ()),)))
        self.assertEqual(hand.kept("bob"), 5)
        hand.read(("bob", "ann", 3, (), ()))
        self.assertEqual(hand.kept("bob"), 5)
        # With it letters 2 and 3 of ann's and 1 of bob's are laid together, his 2, 3 and 4 are kept.
        hand.read(("bob", "ann", 2, (("ann", 1), ("ann", 2)), (((), ()),)))
        self.assertEqual(hand.kept(other="bob"), 3)
        self.assertEqual(hand.kept("cy"), 0)

    def test_letters_of_others_are_kept_apart(self):
        hand = Hand("ann", HANDS)
        hand.write("cy", ())
        hand.write("cy", ())
        hand.read(("bob", "ann", 1, (("cy", 1),), ()))
        self.assertEqual((hand.kept("bob"), hand.kept("cy")), (1, 2))
        hand.read(("cy", "ann", 1, (("ann", 2), ("bob", 4)), ()))
        self.assertEqual((hand.kept("bob"), hand.kept("cy")), (1, 2))

    def test_what_was_laid_together_can_still_be_named(self):
        hand = Hand("ann", HANDS)
        for words in (("big", "red"), ("old",), ("big", "wet")):
            hand.see(words)
        hand.write("bob", ((0, ("big", "red")), (1, ("old",))))
        hand.read(("bob", "ann", 1, (("ann", 1),), ((("big",), ()),)))
        self.assertEqual(hand.kept("bob"), 1)
        self.assertEqual(hand.write("bob", ((0, ()), (1, ()), (2, ("big", "wet"))))[4],
                         ((("big",), ()), (("old",), ()), (None, ("big", "wet"))))
        self.assertEqual(hand.read(("bob", "ann", 2, (("ann", 1), ("ann", 2)),
                                    ((("wet",), ()), (("red",), ()), (("old",), ())))),
                         [2, 0, 1])
        self.assertEqual(hand.kept("bob"), 1)
        self.assertEqual(hand.ground("bob"), [(("big", "red"), 0), (("big", "wet"), 2), (("old",), 1)])

    def test_what_descriptions_of_kept_letters_mean_stays(self):
        hand = Hand("ann", HANDS)
        hand.see(("red",))
        hand.see(("old",))
        hand.write("bob", ((0, ("red",)),))
        # Bob's third letter says "it" of what was told in the first one alone.
        hand.read(("bob", "ann", 3, (("ann", 1),), (((), ()),)))
        hand.write("bob", ((1, ("old",)),))
        hand.read(("bob", "ann", 4, (("ann", 1), ("ann", 2)), ((("old",), ()),)))
        hand.read(("bob", "ann", 1, (), ()))
        hand.read(("bob", "ann", 2, (("ann", 1),), (((), ("wet",)),)))
        self.assertEqual(hand.ground("bob"), [(("old",), 1), (("red", "wet"), 0)])

    def test_no_more_than_lots_is_kept_of_what_was_laid_together(self):
        ann, bob = Hand("ann", HANDS), Hand("bob", HANDS)
        for word in ("big", "old", "red"):
            ann.see((word,))
        lines = ((0, ("big",)), (1, ("old",)), (2, ("red",)))
        for _ in range(20):
            bob.read(ann.write("bob", lines))
            ann.read(bob.write("ann", lines))
            for keeping in (ann.keepings["bob"], bob.keepings["ann"]):
                self.assertLessEqual(len(keeping.sheets), 2)
                self.assertLessEqual(max(len(keeping.said), len(keeping.cards)), 9)
                self.assertEqual(sorted(keeping.said), sorted(keeping.cards))

    def test_each_history_by_its_letters(self):
        for seed in range(40):
            slow = by_chance(seed, 60)
            for name in slow.hands:
                hand = told(slow.view(name), slow.hands)
                for other in slow.hands:
                    if other != name:
                        self.assertEqual(hand.kept(other), kept(slow, name, other))


def kept(slow, hand, other):
    """How many letters point 41 has a hand keep."""
    read = {number for writer, number in slow.read[hand] if writer == other}
    whole = max(number for number in range(len(read) + 1) if set(range(1, number + 1)) <= read)
    many = len(read) + len([key for key in slow.told if key[:2] == (hand, other)])
    return many - (len(ground_of(slow.told, other, hand, slow.told[other, hand, whole][3])) if whole else 0)


class Copies(unittest.TestCase):
    def test_a_copy_goes_on_by_itself(self):
        hand = Hand("ann", HANDS)
        hand.see(("red",))
        hand.see(("old",))
        hand.write("bob", ((0, ("red",)),))
        hand.read(("bob", "ann", 2, (("ann", 1),), (((), ()),)))
        before = stands(hand, "ann")
        copy = hand.copy()
        self.assertIs(type(copy), Hand)
        self.assertEqual(stands(copy, "ann"), before)
        copy.look(0, ("wet",))
        copy.one(0, 1)
        copy.see(())
        self.assertEqual(copy.read(("bob", "ann", 1, (), ((None, ()),))), [3])
        self.assertEqual(copy.write("bob", ())[2], 2)
        self.assertEqual(copy.write("cy", ())[3], (("bob", 1), ("bob", 2)))
        self.assertEqual(stands(hand, "ann"), before)
        self.assertEqual(hand.write("bob", ())[2:4], (2, (("bob", 2),)))
        self.assertEqual(copy.write("bob", ())[2], 3)
        again = stands(copy, "ann")
        hand.look(1, ("tall",))
        hand.read(("bob", "ann", 1, (), ()))
        self.assertEqual(stands(copy, "ann"), again)

    def test_copies_by_chance(self):
        for seed in range(20):
            slow = by_chance(seed, 50)
            name = slow.hands[0]
            entries = slow.view(name)[1]
            half = len(entries) // 2
            hand = told((name, entries[:half]), slow.hands)
            copy = hand.copy()
            before = stands(hand, name, slow.hands)
            for entry in entries[half:]:
                do(copy, name, entry)
            self.assertEqual(stands(hand, name, slow.hands), before)
            for entry in entries[half:]:
                do(hand, name, entry)
            self.assertEqual(stands(hand, name, slow.hands), stands(copy, name, slow.hands))


class ByChance(unittest.TestCase):
    def test_the_same_cards_letters_files_and_grounds_as_a_history(self):
        for seed in range(60):
            slow = by_chance(seed, 60)
            for name in slow.hands:
                self.check(slow, name)

    def check(self, slow, name):
        alone = Slow(slow.hands)
        hand = Hand(name, slow.hands)
        for deed in slow.deeds:
            first = deed[0] != "read" or (deed[2], deed[3]) not in alone.read[name]
            alone.do(deed)
            if deed[1] == name:
                self.assertEqual(do(hand, name, alone.entry(deed)), self.answer(alone, deed) if first else None)
        history = slow.history()
        self.assertEqual(hand.file(), file_of(history, name))
        for other in slow.hands:
            if other != name:
                ground = [(words, min(slow.lot(name, slow.card_for[name][slots[0]])[0]))
                          for slots, words in ground_file(history, name, other)]
                self.assertEqual(hand.ground(other), sorted(ground))

    def answer(self, slow, deed):
        """What a Hand tells of a deed that was done just now."""
        kind, hand, what, last = deed
        if kind == "see":
            return len(slow.things[hand]) - 1
        if kind == "write":
            return list(slow.told.values())[-1]
        if kind == "read":
            lines = range(len(slow.told[what, hand, last][4]))
            return [min(slow.lot(hand, slow.card_for[hand][what, hand, last, k])[0]) for k in lines]
        return None

    def test_letters_of_a_history(self):
        history = read_history(["hands ann bob cy", "see ann 0 red", "write ann bob : 0 red", "read bob ann 1",
                                "write bob ann : 0", "read ann bob 1", "write ann cy : 0"])
        ann, bob = Hand("ann", HANDS), Hand("bob", HANDS)
        ann.see(("red",))
        first = ann.write("bob", ((0, ("red",)),))
        bob.read(first)
        second = bob.write("ann", ((0, ()),))
        ann.read(second)
        self.assertEqual([first, second, ann.write("cy", ((0, ()),))], letters(history))


def lesser(view, hands, k):
    """("lesser", number, line) as point 40 tells it, of the k-th entry, by the letters; None where nothing is so."""
    hand, entries = view
    other = entries[k][1]
    slow = Alone(hands, (hand, entries[:k]))
    slow.told[other, hand, entries[k][2]] = (other, hand, *entries[k][2:])
    read = sorted(key[2] for key in slow.told if key[:2] == (other, hand))
    for number in read[read.index(entries[k][2]):]:
        names, lines = slow.told[other, hand, number][3:]
        keys = {(other, hand, earlier) for earlier in read if earlier <= number}
        keys |= {(hand, other, told_of) for name, told_of in names if name == hand}
        held = public_file(slow.told, frozenset(keys), {})
        lots = public_file(slow.told, ground_of(slow.told, other, hand, names), {})
        ahead = []
        for line, (name, _) in enumerate(lines):
            lot = next(slots for slots, _ in held if (other, hand, number, line) in slots)
            safe = [words for words in subsets(WORDS) if
                    (meant := slow.fit(lots, words)) and all(slots <= lot for slots in meant)]
            if lot in ahead or next(iter(safe), None) != name:
                return "lesser", number, line
            ahead.append(lot)
    return None


class Bent(unittest.TestCase):
    """Views with letters bent: a letter is refused just where with it the view would be none."""

    def out_of_order(self, seed):
        """The view of a hand that reads another's letters out of order, most of what they tell being descriptions."""
        chance = Random(seed)
        slow = Slow(("ann", "bob"))
        things = [some_words(chance, WORDS[:4], 4) for _ in range(3)]
        for _ in range(4):
            thing = chance.randrange(3)
            slow.do(("see", "ann", thing, things[thing]))
        self.write(chance, slow, "ann", "bob")
        self.write(chance, slow, "ann", "bob")
        slow.do(("read", "bob", "ann", 1))
        slow.do(("read", "bob", "ann", 2))
        late = []
        for _ in range(20):
            kind = chance.choice(("write", "one", "read", "answer"))
            if kind == "write" and len(late) < 4:
                late.append(self.write(chance, slow, "bob", "ann"))
            elif kind == "one":
                hand = chance.choice(slow.hands)
                card = chance.randrange(len(slow.things[hand]))
                same = [other for other, thing in enumerate(slow.things[hand]) if thing == slow.things[hand][card]]
                slow.do(("one", hand, card, chance.choice(same)))
            elif kind == "read" and late:
                slow.do(("read", "ann", "bob", late.pop(chance.randrange(len(late)))))
            elif kind == "answer" and slow.read["ann"]:
                slow.do(("read", "bob", "ann", self.write(chance, slow, "ann", "bob")))
        for number in late[::-1]:
            slow.do(("read", "ann", "bob", number))
        return slow.view("ann")

    def write(self, chance, slow, hand, other):
        chosen = chance.sample(slow.lots[hand], min(3, len(slow.lots[hand])))
        lines = [(min(cards), tuple(sorted(words)) if chance.random() < 0.6 else ()) for cards, words in chosen]
        slow.do(("write", hand, other, tuple(lines)))
        return len([key for key in slow.told if key[:2] == (hand, other)])

    def bent(self, chance, view):
        hand, entries = view
        entries = list(entries)
        for _ in range(chance.randint(1, 2)):
            k = chance.choice([k for k, entry in enumerate(entries) if entry[0] == "read"])
            entry, number, names, lines = entries[k][:2], *entries[k][2:]
            if lines and chance.random() < 0.8:
                at = chance.randrange(len(lines))
                name = chance.choice((None, (), some_words(chance, WORDS[:4], 2), some_words(chance, WORDS[:4], 2)))
                lines = lines[:at] + ((name, lines[at][1]),) + lines[at + 1:]
            elif names:
                names = tuple(sorted({*names, ("ann", chance.randint(1, 4))} - {chance.choice(names)}))
            entries[k] = (*entry, number, names, lines)
        return hand, tuple(entries)

    def test_out_of_order(self):
        found = {}
        for seed in range(120):
            view = self.out_of_order(seed)
            chance = Random(seed)
            self.assertIsNone(self.refused(view, ("ann", "bob"))[0])
            for _ in range(5):
                if any(entry[0] == "read" for entry in view[1]):
                    bent = self.bent(chance, view)
                    wrong, answer = self.refused(bent, ("ann", "bob"))
                    self.assertEqual(view_wrong(("ann", "bob"), bent), wrong)
                    if isinstance(answer, tuple) and answer[0] == "lesser":
                        self.assertEqual(answer, lesser(bent, ("ann", "bob"), wrong[1]))
                    found[answer and answer[0]] = True
                    if isinstance(answer, tuple) and answer[0] == "lesser" and answer[1] > bent[1][wrong[1]][2]:
                        found["greater"] = True
        self.assertLessEqual({None, "names", "line", "lesser", "greater"}, {*found})

    def refused(self, view, hands):
        """The first entry that a Hand refuses, as view_wrong tells it, and what it says."""
        hand = Hand(view[0], hands)
        for k, entry in enumerate(view[1]):
            before = stands(hand, view[0], hands)
            try:
                do(hand, view[0], entry)
            except SaidError as error:
                self.assertEqual(stands(hand, view[0], hands), before)
                return ("entry", k), getattr(error, "wrong", ("other",))
        return None, None


class Long(unittest.TestCase):
    def test_a_long_talk_comes_to_an_end_soon(self):
        start = time.monotonic()
        ann, bob = Hand("ann", ("ann", "bob")), Hand("bob", ("ann", "bob"))
        words = subsets(WORDS)
        for number in range(60):
            cards = [ann.see(words[(6 * number + k) % len(words)]) for k in range(3)]
            lines = tuple((card, words[(6 * number + k) % len(words)]) for k, card in enumerate(cards))
            read = bob.read(ann.write("bob", lines + tuple((k, ()) for k in range(3) if number)))
            ann.read(bob.write("ann", tuple((card, ()) for card in read)))
            self.assertLessEqual(max(ann.kept("bob"), bob.kept("ann")), 2)
        self.assertLess(time.monotonic() - start, 20)

    def test_letters_in_turned_order(self):
        start = time.monotonic()
        ann, bob = Hand("ann", ("ann", "bob")), Hand("bob", ("ann", "bob"))
        for word in WORDS:
            ann.see((word,))
        bob.read(ann.write("bob", tuple((k, (word,)) for k, word in enumerate(WORDS))))
        told_of = [bob.write("ann", tuple((k, ()) for k in range(5))) for _ in range(60)]
        for number, letter in enumerate(told_of[:0:-1]):
            self.assertEqual(ann.read(letter), [0, 1, 2, 3, 4])
            self.assertEqual(ann.kept("bob"), number + 2)
        self.assertEqual(ann.read(told_of[0]), [0, 1, 2, 3, 4])
        self.assertEqual(ann.kept("bob"), 60)
        self.assertLess(time.monotonic() - start, 20)


class Seen(unittest.TestCase):
    def test_views_of_histories_are_never_refused(self):
        for seed in range(200, 240):
            slow = by_chance(seed, 60)
            for name in slow.hands:
                told(view_of(slow.history(), name), slow.hands)


if __name__ == "__main__":
    unittest.main()
