"""Point 24: how a least history is led into the history from which it comes."""

import unittest
from random import Random

from saidground.errors import NoHand, NoHistory
from saidground.histories import read_history
from saidground.views import leading, leading_wrong, least_history, view_of
from tests.helper import Least, by_chance


def of(*rows):
    return read_history(["hands ann bob cy", *rows])


# Ann's least history has her things 0 (red), 1 (old) and 2 (wet), and bob's cards 0, 1 and 2 of them.
ROWS = ("see cy 4 old red tall wet", "see ann 5 red", "see ann 7 old", "write ann bob : 0 red : 1 old",
        "read bob ann 1",
        "see bob 5 red tall", "see bob 9 wet", "write bob ann : 3 wet : 0", "see bob 5", "see bob 9 wet",
        "read ann bob 1")
HISTORY = of(*ROWS)
THINGS = (5, 7, 9)
CARDS = (("bob", 0, 0), ("bob", 1, 1), ("bob", 2, 3))


class Leading(unittest.TestCase):
    def test_things_and_cards(self):
        self.assertEqual(leading(HISTORY, "ann"), (THINGS, CARDS))
        self.assertEqual(leading(hand="cy", history=HISTORY), ((4,), ()))
        self.assertEqual(leading(HISTORY, "bob"), ((5, 7, 5, 9, 5, 9), (("ann", 0, 0), ("ann", 1, 1))))

    def test_no_deeds(self):
        self.assertEqual(leading(of(), "ann"), ((), ()))
        self.assertIsNone(leading_wrong(of(), "ann", ((), ())))

    def test_just_the_card_of_the_line_and_not_the_least_of_its_lot(self):
        history = of("see bob 3", "see bob 3 red", "one bob 0 1", "write bob ann : 1 red", "read ann bob 1")
        self.assertEqual(leading(history, "ann"), ((3,), (("bob", 0, 1),)))
        history = of("see ann 3 red", "see bob 3", "write ann bob : 0 red", "read bob ann 1", "one bob 0 1",
                     "write bob ann", "read ann bob 1")
        self.assertEqual(leading(history, "ann"), ((3,), (("bob", 0, 1),)))
        for image in (0, 1):
            self.assertIsNone(leading_wrong(history, "ann", ((3,), (("bob", 0, image),))))

    def test_cards_of_several_hands_by_hands_and_numbers(self):
        history = of("see cy 1 red", "see bob 2 old", "see cy 3", "write cy ann : 1 : 0 red", "read ann cy 1",
                     "write bob ann : 0 old", "read ann bob 1", "write ann bob : 1 red", "read bob ann 1",
                     "write bob ann : 1",
                     "read ann bob 2")
        self.assertEqual(leading(history, "ann"),
                         ((3, 1, 2), (("bob", 0, 0), ("bob", 1, 1), ("cy", 0, 1), ("cy", 1, 0))))

    def test_into_the_least_history_itself(self):
        for seed in range(20):
            history = by_chance(seed).history()
            for hand in history[0]:
                least = least_history(history[0], view_of(history, hand))
                things, cards = leading(least, hand)
                self.assertEqual(things, tuple(range(len(things))))
                self.assertEqual([row[1] for row in cards], [row[2] for row in cards])

    def test_of_two_things_to_one(self):
        history = of("see ann 3", "see ann 3", "see ann 2")
        self.assertEqual(leading(history, "ann"), ((3, 3, 2), ()))
        self.assertIsNone(leading_wrong(history, "ann", ((3, 3, 2), ())))

    def test_refusals(self):
        for function, rest in ((leading, ()), (leading_wrong, (5,))):
            for bad, wrong in ((5, ("history",)), ((("ann", "bob"), (5,)), ("deed", 0)),
                               ((("ann", "bob"), (("look", "ann", 0, ()),)), ("done", 0))):
                with self.assertRaises(NoHistory) as caught:
                    function(bad, "nobody", *rest)
                self.assertEqual(caught.exception.wrong, wrong)
            for bad in ("dan", "", None, 5, True, ["ann"], ("ann",)):
                with self.assertRaises(NoHand):
                    function(HISTORY, bad, *rest)


def wrong(things=THINGS, cards=CARDS, history=HISTORY, hand="ann"):
    return leading_wrong(history, hand, (things, cards))


def put(row, at, value):
    return row[:at] + (value,) + row[at + 1:]


class Forms(unittest.TestCase):
    def test_right(self):
        self.assertIsNone(wrong())
        self.assertIsNone(leading_wrong(thing=(THINGS, CARDS), hand="ann", history=HISTORY))

    def test_no_leading(self):
        for bad in (None, True, 5, "things", (), (THINGS,), (THINGS, CARDS, ()), [THINGS, CARDS], (list(THINGS), CARDS),
                    (THINGS, list(CARDS)), (None, CARDS), (THINGS, None), (THINGS, "bob"), ("579", CARDS)):
            self.assertEqual(leading_wrong(HISTORY, "ann", bad), ("form",), bad)

    def test_things(self):
        for k in range(3):
            for bad in (6, 0, 999, -1, True, False, None, "5", (5,), [5]):
                self.assertEqual(wrong(things=put(THINGS, k, bad)), ("form",), (k, bad))
        for bad in ((), THINGS[:2], THINGS[1:], THINGS + (9,)):
            self.assertEqual(wrong(things=bad), ("form",), bad)

    def test_cards(self):
        for k in range(3):
            row = CARDS[k]
            for bad in (None, 5, "bob", (), row[:2], row + (0,), list(row), ("cy", *row[1:]), ("dan", *row[1:]),
                        ("ann", *row[1:]), (None, *row[1:]), (["bob"], *row[1:]), ("bob", row[1] + 3, row[2]),
                        ("bob", -1, row[2]), ("bob", bool(row[1]) if row[1] < 2 else None, row[2]),
                        *[("bob", row[1], image) for image in (6, 999, -1, True, False, None, "0", (0,), [0])]):
                self.assertEqual(wrong(cards=put(CARDS, k, bad)), ("form",), bad)

    def test_left_out_put_in_or_turned_about(self):
        for bad in ((), CARDS[:2], CARDS[1:], CARDS[:1] + CARDS[2:], CARDS + (("bob", 3, 3),), CARDS + CARDS[2:],
                    CARDS + (("cy", 0, 0),), (("ann", 0, 0),) + CARDS, CARDS[::-1], CARDS[1:] + CARDS[:1],
                    CARDS[:1] + CARDS, (CARDS[0], CARDS[2], CARDS[1])):
            self.assertEqual(wrong(cards=bad), ("form",), bad)

    def test_true_where_one_would_be_right(self):
        history = of("see bob 0 red", "see bob 1", "see bob 2", "write bob ann : 0 red : 1", "read ann bob 1")
        things, cards = leading(history, "ann")
        self.assertEqual((things, cards), ((0, 1), (("bob", 0, 0), ("bob", 1, 1))))
        for thing in (((0, True), cards), ((False, 1), cards), (things, (cards[0], ("bob", True, 1))),
                      (things, (cards[0], ("bob", 1, True))), (things, (("bob", False, 0), cards[1])),
                      (things, (("bob", 0, False), cards[1]))):
            self.assertEqual(leading_wrong(history, "ann", thing), ("form",), thing)

    def test_forms_ahead_of_all_else(self):
        self.assertEqual(wrong(things=(9, 9, 9)), ("thing", 0))
        self.assertEqual(wrong(things=(9, 9, 9), cards=CARDS[:2]), ("form",))


class Wrong(unittest.TestCase):
    def test_true_words_that_are_not_true_of_the_image(self):
        self.assertEqual(wrong(things=(9, 7, 9)), ("thing", 0))
        self.assertEqual(wrong(things=(5, 5, 9)), ("thing", 1))
        self.assertEqual(wrong(things=(5, 7, 7)), ("thing", 2))
        self.assertEqual(wrong(things=(5, 9, 7)), ("thing", 1))

    def test_words_of_lines_that_were_read_are_true_too(self):
        history = of("see ann 0", "see bob 0 red", "see ann 1", "write ann bob : 0", "read bob ann 1", "one bob 0 1",
                     "write bob ann : 0 red", "read ann bob 1")
        self.assertIsNone(leading_wrong(history, "ann", leading(history, "ann")))
        self.assertEqual(leading_wrong(history, "ann", ((1, 1), (("bob", 0, 1),))), ("thing", 0))

    def test_own_cards_of_other_things(self):
        self.assertEqual(wrong(things=(4, 7, 9)), ("own", 0))
        self.assertEqual(wrong(things=(5, 4, 9)), ("own", 1))
        self.assertEqual(wrong(things=(5, 7, 4)), ("own", 2))
        self.assertEqual(wrong(things=(4, 7, 7)), ("thing", 2))
        history = of("see ann 3", "see ann 4", "see ann 4", "one ann 1 2")
        self.assertEqual(leading_wrong(history, "ann", ((3, 3), ())), ("own", 1))

    def test_cards_of_other_things(self):
        self.assertEqual(wrong(cards=(("bob", 0, 1), ("bob", 1, 0), ("bob", 2, 0))), ("card", "bob", 0))
        self.assertEqual(wrong(cards=put(CARDS, 1, ("bob", 1, 0))), ("card", "bob", 1))
        self.assertEqual(wrong(cards=put(CARDS, 2, ("bob", 2, 0))), ("card", "bob", 2))

    def test_cards_of_which_less_is_known(self):
        self.assertEqual(wrong(cards=put(CARDS, 0, ("bob", 0, 4))), ("card", "bob", 0))
        history = of(*ROWS, "look bob 4 red")
        self.assertEqual(wrong(cards=put(CARDS, 0, ("bob", 0, 4)), history=history),
                         ("slot", "bob", ("ann", "bob", 1, 0)))

    def test_own_goes_ahead_of_card(self):
        self.assertEqual(wrong(things=(5, 7, 4), cards=put(CARDS, 0, ("bob", 0, 1))), ("own", 2))

    def twice(self, *more):
        return of("see ann 5 red", "write ann bob : 0 red", "write ann bob : 0 red", "read bob ann 1", "read bob ann 2",
                  "see bob 5 red", "see bob 5 red", "one bob 0 1", "write bob ann : 0", "read ann bob 1", *more)

    def test_cards_that_are_one_led_to_some_that_are_not(self):
        history = self.twice()
        self.assertEqual(leading(history, "ann"), ((5,), (("bob", 0, 0), ("bob", 1, 1))))
        for first, second, told in ((0, 1, None), (1, 0, None), (0, 0, None), (0, 2, ("one", "bob", 0, 1)),
                                    (2, 1, ("one", "bob", 0, 1)), (2, 3, ("one", "bob", 0, 1)),
                                    (2, 2, ("slot", "bob", ("ann", "bob", 1, 0)))):
            cards = (("bob", 0, first), ("bob", 1, second))
            self.assertEqual(leading_wrong(history, "ann", ((5,), cards)), told, cards)
        history = self.twice("one bob 2 1")
        for first, second, told in ((0, 2, None), (2, 2, None), (2, 0, None), (1, 3, ("one", "bob", 0, 1))):
            cards = (("bob", 0, first), ("bob", 1, second))
            self.assertEqual(leading_wrong(history, "ann", ((5,), cards)), told, cards)

    def test_one_by_first_cards_then_second_ones(self):
        rows = ["see ann 5 red", *["write ann bob : 0 red"] * 3, *[f"read bob ann {n}" for n in (1, 2, 3)],
                "see bob 5 red", "one bob 0 1", "one bob 1 2", "write bob ann : 0", "read ann bob 1"]
        for images, told in (((0, 1, 2), None), ((0, 3, 2), (0, 1)), ((0, 3, 3), (0, 1)), ((0, 1, 3), (0, 2)),
                             ((3, 1, 2), (0, 1)), ((3, 3, 2), (0, 2))):
            cards = tuple(("bob", k, image) for k, image in enumerate(images))
            self.assertEqual(leading_wrong(of(*rows), "ann", ((5,), cards)), told and ("one", "bob", *told), cards)

    def test_slots_by_hands_and_rising(self):
        self.assertEqual(wrong(cards=put(CARDS, 0, ("bob", 0, 2))), ("slot", "bob", ("ann", "bob", 1, 0)))
        self.assertEqual(wrong(cards=put(CARDS, 2, ("bob", 2, 5))), ("slot", "bob", ("bob", "ann", 1, 0)))
        self.assertEqual(wrong(cards=(("bob", 0, 2), ("bob", 1, 1), ("bob", 2, 5))),
                         ("slot", "bob", ("ann", "bob", 1, 0)))
        rows = ("see cy 1", "see cy 1", "see bob 2", "see bob 2", "write bob ann : 0", "write cy ann : 0",
                "read ann cy 1",
                "read ann bob 1")
        for first, second, told in ((0, 0, None), (1, 0, ("slot", "bob", ("bob", "ann", 1, 0))),
                                    (0, 1, ("slot", "cy", ("cy", "ann", 1, 0))),
                                    (1, 1, ("slot", "bob", ("bob", "ann", 1, 0)))):
            cards = (("bob", 0, first), ("cy", 0, second))
            self.assertEqual(leading_wrong(of(*rows), "ann", ((1, 2), cards)), told)


def slow_wrong(slow, hand, thing):
    """What is wrong with a leading of its form, each sort after the other as the document tells them."""
    least = Least(slow.hands, slow.view(hand))
    things, cards = thing
    goes = {row[:2]: row[2] for row in cards}
    for k, image in enumerate(things):
        if not least.true[k] <= slow.true[image]:
            return "thing", k
    for k, image in enumerate(least.things[hand]):
        if slow.things[hand][k] != things[image]:
            return "own", k
    for other, k, image in cards:
        if slow.things[other][image] != things[least.things[other][k]]:
            return "card", other, k
        if not least.lot(other, k)[1] <= slow.lot(other, image)[1]:
            return "card", other, k
    for other, k, image in cards:
        for second, j, also in cards:
            if second == other and j > k and j in least.lot(other, k)[0] and also not in slow.lot(other, image)[0]:
                return "one", other, k, j
    for other in slow.hands:
        for slot, card in sorted(least.card_for[other].items()):
            if other != hand and slow.card_for[other][slot] not in slow.lot(other, goes[other, card])[0]:
                return "slot", other, slot
    for key, letter in least.told.items():
        assert letter[4] in ((), slow.told[key][4]) and {*letter[3]} <= {*slow.told[key][3]}
    assert all(least.read[other] <= slow.read[other] for other in slow.hands)
    return None


class ByChance(unittest.TestCase):
    def test_leading_is_right_and_what_is_bent_is_told(self):
        answers = {}
        for seed in range(80):
            slow = by_chance(seed, 50)
            chance = Random(seed)
            for hand in slow.hands:
                told = leading(slow.history(), hand)
                self.assertIsNone(leading_wrong(slow.history(), hand, told))
                self.assertIsNone(slow_wrong(slow, hand, told))
                for _ in range(6):
                    bent = self.bent(chance, slow, told)
                    answer = slow_wrong(slow, hand, bent)
                    self.assertEqual(leading_wrong(slow.history(), hand, bent), answer)
                    answers[answer and answer[0]] = True
        self.assertEqual({*answers}, {None, "thing", "own", "card", "one", "slot"})

    def bent(self, chance, slow, told):
        """Another image for one of the things or cards, mostly of a card of the same thing."""
        things, cards = told
        if cards and chance.random() < 0.8:
            at = chance.randrange(len(cards))
            hand, card, image = cards[at]
            same = [other for other, thing in enumerate(slow.things[hand])
                    if thing == slow.things[hand][image] or chance.random() < 0.1]
            return things, put(cards, at, (hand, card, chance.choice(same)))
        at = chance.randrange(len(things)) if things else 0
        return (put(things, at, chance.choice(sorted(slow.true))) if things else things), cards


if __name__ == "__main__":
    unittest.main()
