"""Points 52 and 53: what a letter's names give away of its writer, and papers that show it."""

import unittest
from collections import Counter
from itertools import combinations
from random import Random

from saidground.errors import NoEntry, NoHands, NoSlots, NoView
from saidground.given import unheld, unheld_paper, unheld_wrong
from saidground.histories import history_wrong, read_history
from saidground.views import view_of
from tests.helper import WORDS, Least, Slow, by_chance, ground_of, joined, played, public_file, subsets

HANDS = ("ann", "bob", "cy")
NO_HANDS = (None, 5, True, "ann", (), ("ann",), ["ann", "bob"], ("bob", "ann"), ("ann", "ann"), ("ann", 5),
            ("a", "b", "c", "d", "e", "f"), ("ann", "Bob"))
BEGUN = ("see ann 0 red", "see ann 1 old", "see ann 2 wet", "write ann bob : 0 red : 1 old : 2 wet", "read bob ann 1")
RED, OLD, WET = [("ann", "bob", 1, k) for k in range(3)]
NEW, LATER = ("bob", "ann", 1, 0), ("bob", "ann", 2, 0)


def of(*rows):
    return read_history(["hands ann bob cy", *BEGUN, *rows])


def ann(*rows):
    return view_of(of(*rows), "ann")


ONE_LINE = ann("write bob ann : 0", "read ann bob 1")
TWO_LINES = ann("write bob ann : 0 : 1", "read ann bob 1")
# Entry 4 reads letter 2, which names what is red; entries 5 and 6 read letter 1, which tells of something new.
OUT_OF_ORDER = ann("see bob 9 big", "write bob ann : 3 big", "write bob ann : 0", "read ann bob 2", "read ann bob 1",
                   "read ann bob 1")


def held_as_one(history, writer, reader, number, slots):
    """Whether the writer held all the slots to be one when it wrote that letter."""
    slow = Slow(history[0])
    for deed in history[1]:
        slow.do(deed)
        if (writer, reader, number) in slow.told:
            break
    return {slow.card_for[writer][slot] for slot in slots} <= slow.lot(writer, slow.card_for[writer][slots[0]])[0]


class Unheld(unittest.TestCase):
    def told(self, view, entry, slots, paper):
        """Ask it all of slots; paper is the one of yes, or None where they aren't given away."""
        self.assertIs(unheld(HANDS, view, entry, slots), paper is not None)
        told = unheld_paper(HANDS, view, entry, slots)
        self.assertIsNone(unheld_wrong(HANDS, view, entry, slots, told))
        if paper is not None:
            self.assertEqual(told, paper)
            return
        self.assertEqual((told[0], len(told)), ("no", 2))
        self.assertIsNone(history_wrong(told[1]))
        self.assertEqual(told[1][0], HANDS)
        self.assertEqual(view_of(told[1], view[0]), view)
        writer, number = view[1][entry][1:3]
        self.assertTrue(held_as_one(told[1], writer, view[0], number, slots))

    def test_a_name_would_have_been_lesser(self):
        self.told(ONE_LINE, 4, (RED, OLD), ("yes", 1, 0, ("old",)))
        self.told(ONE_LINE, 4, (RED, WET), None)
        self.told(ONE_LINE, 4, (OLD, WET), None)
        self.told(ONE_LINE, 4, (RED, OLD, WET), ("yes", 1, 0, ()))

    def test_slots_that_are_one_already(self):
        self.told(ONE_LINE, 4, (RED, NEW), None)
        self.told(ONE_LINE, 4, (OLD, NEW), ("yes", 1, 0, ("old",)))

    def test_two_lines_would_have_been_one(self):
        self.told(TWO_LINES, 4, (RED, OLD), ("yes", 1, 0, 1))
        self.told(TWO_LINES, 4, (RED, ("bob", "ann", 1, 1)), ("yes", 1, 0, 1))
        self.told(TWO_LINES, 4, (NEW, ("bob", "ann", 1, 1)), ("yes", 1, 0, 1))
        self.told(TWO_LINES, 4, (RED, WET), None)

    def test_two_lines_go_ahead_of_a_lesser_name(self):
        # With red and wet one the first line would be called otherwise; of three lines the last two would be one.
        view = ann("write bob ann : 2 : 0 : 1", "read ann bob 1")
        self.told(view, 4, (RED, OLD), ("yes", 1, 1, 2))
        self.told(view, 4, (OLD, WET), ("yes", 1, 0, 2))
        self.told(view, 4, (RED, WET), ("yes", 1, 0, 1))
        self.told(view, 4, (RED, OLD, WET), ("yes", 1, 0, 1))
        # As old and wet are one, the first line would be "it"; the second is one with the third ahead of that.
        view = ann("see bob 9", "write bob ann : 2 : 3 : 1", "read ann bob 1")
        self.told(view, 4, (RED, WET), ("yes", 1, 0, ("red",)))
        self.told(view, 4, (OLD, ("bob", "ann", 1, 1)), ("yes", 1, 1, 2))

    def test_a_new_line_would_have_had_a_name(self):
        view = ann("see bob 9 big", "write bob ann : 3 big", "read ann bob 1")
        self.told(view, 4, (RED, NEW), ("yes", 1, 0, ("red",)))
        self.told(view, 4, (RED, OLD, NEW), ("yes", 1, 0, ("old",)))
        self.told(view, 4, (RED, OLD), None)

    def test_nothing_is_given_away_by_a_letter_without_lines(self):
        self.told(ann("write bob ann", "read ann bob 1"), 4, (RED, OLD, WET), None)

    def test_by_a_later_letter(self):
        # What bob holds to be one, he does from then on.
        self.told(OUT_OF_ORDER, 5, (RED, OLD), ("yes", 2, 0, ("old",)))
        self.told(OUT_OF_ORDER, 5, (RED, NEW), ("yes", 1, 0, ("red",)))
        self.told(OUT_OF_ORDER, 5, (OLD, WET), None)
        view = ann("write bob ann", "write bob ann : 1", "write bob ann : 0 : 1", "read ann bob 1", "read ann bob 3")
        self.told(view, 4, (RED, OLD), ("yes", 3, 0, 1))
        # Letter 2 tells it, too, but isn't read yet.
        view = ann("write bob ann", "write bob ann : 1", "write bob ann : 0 : 1", "read ann bob 1", "read ann bob 3",
                   "read ann bob 2")
        self.told(view, 4, (OLD, WET), None)
        self.told(view, 4, (RED, OLD), ("yes", 3, 0, 1))
        self.told(view, 4, (RED, OLD, WET), ("yes", 2, 0, ()))

    def test_an_earlier_letter_gives_nothing_away(self):
        view = ann("write bob ann : 0", "write bob ann", "read ann bob 1", "read ann bob 2")
        self.told(view, 4, (RED, OLD), ("yes", 1, 0, ("old",)))
        self.told(view, 5, (RED, OLD), None)

    def test_a_letter_read_again_out_of_order_and_its_own_slots(self):
        for entry in (5, 6):
            self.told(OUT_OF_ORDER, entry, (RED, OLD), ("yes", 2, 0, ("old",)))
            self.told(OUT_OF_ORDER, entry, (OLD, WET, NEW), ("yes", 1, 0, ("old",)))
        self.told(OUT_OF_ORDER, 4, (RED, OLD), ("yes", 2, 0, ("old",)))
        # Of letter 1, which ann reads behind it, bob had the slot when he wrote letter 2.
        self.told(OUT_OF_ORDER, 4, (RED, NEW), None)
        self.told(OUT_OF_ORDER, 4, (NEW, LATER), None)
        self.told(OUT_OF_ORDER, 4, (OLD, NEW, LATER), ("yes", 2, 0, ("old",)))

    def test_what_a_letter_means_is_held_in_later_ones(self):
        # By letter 1 its own line is one with what is red, which is told of again by letter 2.
        view = ann("write bob ann : 0", "write ann bob", "read bob ann 2", "write bob ann : 0 : 2", "read ann bob 1",
                   "read ann bob 2")
        self.told(view, 6, (WET, NEW), ("yes", 2, 0, 1))
        self.told(view, 5, (WET, NEW), ("yes", 2, 0, 1))
        self.told(view, 5, (RED, WET), ("yes", 2, 0, 1))

    def test_two_and_twelve_slots(self):
        rows = [f"see ann {k}" for k in range(13)]
        lines = ["".join(f" : {card}" for card in cards) for cards in (range(6), range(6, 12), (12,))]
        history = read_history(["hands ann bob cy", *rows, *[f"write ann bob{line}" for line in lines],
                                *[f"read bob ann {number}" for number in (1, 2, 3)], "write bob ann", "read ann bob 1"])
        view = view_of(history, "ann")
        slots = tuple(("ann", "bob", 1 + k // 6, k % 6) for k in range(13))
        for some in (slots[:2], slots[:12], slots[1:], slots[:1] + slots[12:]):
            self.told(view, 16, some, None)
        for bad in (slots, slots[:1], ()):
            with self.assertRaises(NoSlots):
                unheld(HANDS, view, 16, bad)

    def test_by_names(self):
        self.assertIs(unheld(slots=(RED, OLD), entry=4, view=ONE_LINE, hands=HANDS), True)
        self.assertEqual(unheld_paper(slots=(RED, OLD), entry=4, view=ONE_LINE, hands=HANDS), ("yes", 1, 0, ("old",)))
        self.assertIsNone(unheld_wrong(thing=("yes", 1, 0, ("old",)), slots=(RED, OLD), entry=4, view=ONE_LINE,
                                       hands=HANDS))


class Refused(unittest.TestCase):
    def refused(self, error, *arguments):
        for function, more in ((unheld, ()), (unheld_paper, ()), (unheld_wrong, ("no paper",))):
            with self.assertRaises(error, msg=arguments) as caught:
                function(*arguments, *more)
            self.assertIs(type(caught.exception), error)
        return caught.exception

    def test_in_their_order(self):
        for bad in NO_HANDS:
            self.refused(NoHands, bad, "no view", "no entry", "no slots")
        bent = ("ann", OUT_OF_ORDER[1] + (("look", 9, ()),))
        for bad, wrong in ((None, ("view",)), ("ann", ("view",)), (("dan", ()), ("view",)), (bent, ("entry", 7))):
            self.assertEqual(self.refused(NoView, HANDS, bad, "no entry", "no slots").wrong, wrong)

    def test_entries(self):
        for bad in (0, 1, 3, 7, 99, -1, -3, True, False, None, "4", (4,), [4], 10 ** 30):
            self.refused(NoEntry, HANDS, OUT_OF_ORDER, bad, (RED, OLD))
            self.refused(NoEntry, HANDS, OUT_OF_ORDER, bad, "no slots")

    def test_slots(self):
        for bad in (None, True, 5, "slots", (), (RED,), [RED, OLD], (OLD, RED), (RED, RED), (RED, OLD, OLD), (RED, 5),
                    (RED, None), (RED, "bob"), (RED, ()), (RED, list(OLD)), (RED, OLD + (0,)), (RED, OLD[:3]),
                    (RED, ("ann", "bob", 1, 3)), (RED, ("ann", "bob", 2, 0)), (RED, ("ann", "cy", 1, 0)),
                    (("ann", "bob", 1, False), OLD), (RED, ("ann", "bob", 1, True)), (RED, ("ann", "bob", True, 1)),
                    (("ann", "ann", 1, 0), RED), (RED, ("bob", "bob", 1, 0)), (RED, ("dan", "ann", 1, 0)),
                    (RED, ("bob", "cy", 1, 0)), (RED, ("bob", "ann", 3, 0)), (RED, ("bob", "ann", 1, 1)),
                    (RED, ("bob", "ann", 0, 0)), (RED, (["bob"], "ann", 1, 0))):
            for entry in (4, 5, 6):
                self.refused(NoSlots, HANDS, OUT_OF_ORDER, entry, bad)

    def test_slots_that_the_writer_had_not(self):
        # Letter 2 is behind letter 1.
        for entry in (5, 6):
            self.refused(NoSlots, HANDS, OUT_OF_ORDER, entry, (RED, LATER))
            self.refused(NoSlots, HANDS, OUT_OF_ORDER, entry, (NEW, LATER))
        # Letter 1 of his isn't read by ann, letter 2 of hers not by him, cy's are none of theirs.
        view = ann("write ann bob : 1", "write bob ann : 0", "write bob ann : 0", "see cy 3", "write cy ann : 0",
                   "read ann cy 1", "read ann bob 2")
        for bad in (NEW, ("ann", "bob", 2, 0), ("cy", "ann", 1, 0)):
            self.refused(NoSlots, HANDS, view, 6, tuple(sorted((RED, bad))))
        self.assertIs(unheld(HANDS, view, 6, (RED, LATER)), False)

    def test_of_another_writers_letter(self):
        view = ann("write ann cy : 0 red : 1 old", "read cy ann 1", "write cy ann : 0", "read ann cy 1",
                   "write bob ann : 0", "read ann bob 1")
        self.assertEqual(unheld_paper(HANDS, view, 5, (("ann", "cy", 1, 0), ("ann", "cy", 1, 1))), ("yes", 1, 0, ()))
        self.refused(NoSlots, HANDS, view, 5, (RED, OLD))
        self.refused(NoSlots, HANDS, view, 6, (("ann", "cy", 1, 0), ("ann", "cy", 1, 1)))
        self.assertIs(unheld(HANDS, view, 6, (RED, OLD)), True)


class Wrong(unittest.TestCase):
    def told(self, view, entry, slots, thing, wrong):
        self.assertEqual(unheld_wrong(HANDS, view, entry, slots, thing), wrong, thing)

    def test_form(self):
        for bad in (None, True, 5, "yes", (), ("yes",), ("no",), ("no", 1, 2), ["no", 1], ("yes", 1), ("yes", 1, 0),
                    ("yes", 1, 0, (), ()), ["yes", 1, 0, ()], ("maybe", 1, 0, ()), ("no", 1, 0, ()), (None, 5),
                    ("yes", True, 0, ("old",)), ("yes", 1, False, ("old",)), ("yes", 1, 0, True), ("yes", -1, 0, ()),
                    ("yes", 1, -1, ()), ("yes", 1, 0, -1), ("yes", None, 0, ()), ("yes", 1, "0", ()),
                    ("yes", 1, 0, None), ("yes", 1, 0, "old"), ("yes", 1, 0, ["old"]), ("yes", 1, 0, ("wet", "old")),
                    ("yes", 1, 0, ("Old",)), ("yes", 1, 0, (5,))):
            self.told(ONE_LINE, 4, (RED, OLD), bad, ("form",))

    def test_a_history_of_no(self):
        view, slots = ONE_LINE, (OLD, WET)
        rows = ["see ann 0 red", "see ann 1 old", "see ann 1 wet", *BEGUN[3:], "one bob 1 2", "write bob ann : 0",
                "read ann bob 1"]
        good = read_history(["hands ann bob cy", *rows])
        self.told(view, 4, slots, ("no", good), None)
        # With things numbered otherwise, and with more said between others, it will do, too.
        more = ["see cy 1 big", "see ann 5 red", "see ann 3 old", "see ann 3 wet", *rows[3:5], "write cy bob : 0 big",
                *rows[5:], "read bob cy 1", "write bob ann"]
        self.told(view, 4, slots, ("no", read_history(["hands ann bob cy", *more])), None)
        self.told(view, 4, slots, ("no", read_history(["hands ann bob cy", *more, "write ann cy"])), ("view",))
        for bad in (None, True, 5, (), (HANDS,), list(good), (HANDS, None), (HANDS, (("see", "ann", True, ()),)),
                    (HANDS, good[1] + (("look", "bob", 9, ()),))):
            self.told(view, 4, slots, ("no", bad), ("history",))
        # Of just these hands.
        self.told(view, 4, slots, ("no", read_history(["hands ann bob", *rows])), ("history",))
        self.told(view, 4, slots, ("no", read_history(["hands ann bob cy dan", *rows])), ("history",))
        for bad in (of(), of("write bob ann : 1", "read ann bob 1"), of("write bob ann : 0"),
                    (HANDS, good[1][:-1]), (HANDS, good[1] + good[1][-1:])):
            self.told(view, 4, slots, ("no", bad), ("view",))
        self.told(view, 4, slots, ("no", of("write bob ann : 0", "read ann bob 1")), ("held",))
        # He finds it too late.
        late = read_history(["hands ann bob cy", *rows[:5], "write bob ann : 0", "one bob 1 2", "read ann bob 1"])
        self.told(view, 4, slots, ("no", late), ("held",))
        # Not all of them; others than those that are asked.
        self.told(view, 4, (OLD, WET), ("no", good), None)
        self.told(view, 4, (RED, OLD, WET), ("no", good), ("held",))
        self.told(view, 4, (RED, WET), ("no", good), ("held",))

    def test_held_when_it_wrote_that_letter(self):
        view = ann("write bob ann", "write bob ann", "read ann bob 1", "read ann bob 2")
        between = read_history(["hands ann bob cy", "see ann 0 red", "see ann 1 old", "see ann 1 wet", *BEGUN[3:],
                                "write bob ann", "one bob 1 2", "write bob ann", "read ann bob 1", "read ann bob 2"])
        self.told(view, 4, (OLD, WET), ("no", between), ("held",))
        self.told(view, 5, (OLD, WET), ("no", between), None)

    def test_letter(self):
        for bad in (("yes", 0, 0, ("old",)), ("yes", 2, 0, ("old",)), ("yes", 99, 9, 9)):
            self.told(ONE_LINE, 4, (RED, OLD), bad, ("letter",))
        self.told(ONE_LINE, 4, (RED, OLD), ("yes", 1, 0, ("old",)), None)
        # From that letter on, and of those that ann read.
        view = ann("write bob ann : 0", "write bob ann : 0", "write bob ann : 0", "write bob ann : 0", "read ann bob 1",
                   "read ann bob 4", "read ann bob 2")
        for entry, numbers in ((4, (1, 2, 4)), (5, (4,)), (6, (2, 4))):
            for number in range(6):
                wrong = None if number in numbers else ("letter",)
                self.told(view, entry, (RED, OLD), ("yes", number, 0, ("old",)), wrong)

    def test_line(self):
        for bad in (("yes", 1, 2, ()), ("yes", 1, 2, 3), ("yes", 1, 0, 2), ("yes", 1, 1, 1), ("yes", 1, 1, 0),
                    ("yes", 1, 0, 0), ("yes", 1, 9, ("old",))):
            self.told(TWO_LINES, 4, (RED, OLD), bad, ("line",))

    def test_lines(self):
        self.told(TWO_LINES, 4, (RED, OLD), ("yes", 1, 0, 1), None)
        self.told(TWO_LINES, 4, (RED, WET), ("yes", 1, 0, 1), ("lines",))
        view = ann("write bob ann : 2 : 0 : 1", "read ann bob 1")
        for slots, pairs in (((RED, OLD), ((1, 2),)), ((OLD, WET), ((0, 2),)),
                             ((RED, OLD, WET), ((0, 1), (0, 2), (1, 2)))):
            for pair in combinations(range(3), 2):
                self.told(view, 4, slots, ("yes", 1, *pair), None if pair in pairs else ("lines",))

    def test_less(self):
        for words, wrong in (((), ("fits",)), (("big",), ("fits",)), (("old",), None), (("red",), ("less",)),
                             (("wet",), ("less",)), (("old", "red"), ("less",)), (("big", "old"), ("less",))):
            self.told(ONE_LINE, 4, (RED, OLD), ("yes", 1, 0, words), wrong)
        # A new line has no name: any words are less.
        view = ann("see bob 9 big", "write bob ann : 3 big", "read ann bob 1")
        for words, wrong in ((("red",), None), (("old",), ("fits",)), ((), ("fits",)), (("old", "red"), ("fits",)),
                             (("big",), ("fits",))):
            self.told(view, 4, (RED, NEW), ("yes", 1, 0, words), wrong)

    def test_another_paper_than_the_told_one(self):
        self.told(TWO_LINES, 4, (RED, OLD), ("yes", 1, 0, ("old",)), None)
        self.told(TWO_LINES, 4, (RED, OLD), ("yes", 1, 1, ()), ("fits",))
        self.told(TWO_LINES, 4, (RED, OLD, WET), ("yes", 1, 1, ()), None)
        self.told(ONE_LINE, 4, (RED, OLD, WET), ("yes", 1, 0, ("old",)), None)

    def test_all_that_fits_is_one_with_the_line(self):
        view = view_of(read_history([
            "hands ann bob", "see ann 0 red", "see ann 1 big old", "see ann 2 big wet",
            "write ann bob : 0 red : 1 big old : 2 big wet", "read bob ann 1", "write bob ann : 0", "read ann bob 1"]),
            "ann")
        for slots, words, wrong in (((RED, OLD), ("big",), ("fits",)), ((RED, OLD, WET), ("big",), None),
                                    ((OLD, WET), ("big",), ("fits",)), ((RED, OLD), ("old",), None)):
            self.assertEqual(unheld_wrong(("ann", "bob"), view, 4, slots, ("yes", 1, 0, words)), wrong)


class ByChance(unittest.TestCase):
    def had(self, slow, hand, entry):
        """The slots that the writer of a read letter had, by point 52."""
        _, writer, number, names, _ = entry
        keys = [(hand, writer, told) for name, told in names if name == hand]
        keys += [(writer, hand, told) for name, told in slow.read[hand] if name == writer and told <= number]
        return sorted((*key, k) for key in keys for k in range(len(slow.told[key][4])))

    def each(self, check, seeds, tries):
        for seed in seeds:
            slow = by_chance(seed, 60)
            chance = Random(seed)
            for hand in slow.hands:
                view = slow.view(hand)
                for k, entry in enumerate(view[1]):
                    slots = self.had(slow, hand, entry) if entry[0] == "read" else []
                    for _ in range(tries if len(slots) > 1 else 0):
                        many = min(len(slots), chance.choice((2, 2, 2, 3, 5, 12)))
                        check(slow, view, k, tuple(sorted(chance.sample(slots, many))))

    def test_beside_the_least_history(self):
        self.found = Counter()
        self.each(self.check, range(30), 2)
        self.assertLessEqual({"no", "two", "less", "later"}, {*self.found})

    def check(self, slow, view, entry, slots):
        hands = slow.hands
        told = unheld(hands, view, entry, slots)
        self.assertIs(told, self.is_other(hands, view, entry, slots))
        paper = unheld_paper(hands, view, entry, slots)
        self.assertIsNone(unheld_wrong(hands, view, entry, slots, paper))
        writer, number = view[1][entry][1:3]
        if told:
            self.assertEqual(paper, ("yes", *self.showing(slow, view, entry, slots)))
            self.assertFalse(held_as_one(slow.history(), writer, view[0], number, slots))
            self.found["later" if paper[1] > number else "two" if isinstance(paper[3], int) else "less"] += 1
        else:
            self.assertIsNone(self.showing(slow, view, entry, slots))
            self.assertEqual(played(paper[1]).view(view[0]), view)
            self.assertTrue(held_as_one(paper[1], writer, view[0], number, slots))
            self.found["no"] += 1

    def is_other(self, hands, view, entry, slots):
        """Whether the least history, with the slots' cards found one right ahead of the letter, isn't the same."""
        writer, number = view[1][entry][1:3]
        least = Least(hands, view)
        cards = [least.card_for[writer][slot] for slot in slots]
        things = {least.things[writer][card] for card in cards}
        slow = Slow(hands)
        for deed in least.deeds:
            if deed[:3] == ("write", writer, view[0]) and len([
                    key for key in slow.told if key[:2] == (writer, view[0])]) == number - 1:
                for card in cards:
                    if card not in slow.lot(writer, cards[0])[0]:
                        slow.do(("one", writer, cards[0], card))
            if deed[0] == "see" and deed[2] in things:
                deed = (*deed[:2], min(things), deed[3])
            if not slow.can(deed):
                return True
            slow.do(deed)
        return slow.view(view[0]) != view

    def showing(self, slow, view, entry, slots):
        """What a paper of yes tells, by point 53; None of no."""
        hand = view[0]
        writer, first = view[1][entry][1:3]
        read = sorted(number for name, number in slow.read[hand] if name == writer)
        for number in read:
            names, lines = slow.told[writer, hand, number][3:]
            keys = {(hand, writer, told) for name, told in names if name == hand}
            keys |= {(writer, hand, other) for other in read if other <= number}
            held = public_file(slow.told, frozenset(keys), {})
            if number < first:
                continue
            held = joined(held, {*slots})
            own = [next(lot for lot, _ in held if (writer, hand, number, k) in lot) for k in range(len(lines))]
            for k, other in combinations(range(len(lines)), 2):
                if own[k] == own[other]:
                    return number, k, other
            file = public_file(slow.told, ground_of(slow.told, writer, hand, names), {})
            for k, (name, _) in enumerate(lines):
                for words in subsets(WORDS):
                    meant = slow.fit(file, words)
                    if meant and all(lot <= own[k] for lot in meant):
                        if words != name:
                            return number, k, words
                        break
        return None

    def test_of_more_slots_it_is_so_too(self):
        self.each(self.check_more, range(30, 50), 1)

    def check_more(self, slow, view, entry, slots):
        if unheld(slow.hands, view, entry, slots):
            had = self.had(slow, view[0], view[1][entry])
            more = tuple(sorted({*slots, had[0], had[-1]}))
            if len(more) <= 12:
                self.assertTrue(unheld(slow.hands, view, entry, more))


if __name__ == "__main__":
    unittest.main()
