"""Points 50 and 51: faces, what a card is called, and by what its faces are hidden."""

import unittest
from collections import Counter
from itertools import permutations

from saidground.errors import NoCard, NoHand, NoHands, NoView
from saidground.faces import called, faces, hidden
from saidground.histories import read_history
from saidground.letters import ground_file, name_for
from saidground.views import view_of
from tests.helper import by_chance, listed

HANDS = ("ann", "bob", "cy")
NO_HANDS = (None, 5, True, "ann", (), ("ann",), ["ann", "bob"], ("bob", "ann"), ("ann", "ann"), ("ann", 5),
            ("a", "b", "c", "d", "e", "f"), ("ann", "Bob"))
NO_CARDS = (3, 99, -1, True, False, None, "0", (0,), [0], 10 ** 30)


def of(*rows):
    return read_history(["hands ann bob cy", *rows])


def seen(*rows):
    """Ann's view, behind bob's having told her that he read her first two letters."""
    return view_of(of(*rows, "read bob ann 1", "read bob ann 2", "write bob ann", "read ann bob 1"), "ann")


class Faces(unittest.TestCase):
    def test_lots_with_slots_and_without(self):
        view = seen("see ann 0 red", "see ann 1", "see ann 2 old", "write ann bob : 2 old : 0", "write ann bob",
                    "see ann 3 wet")
        self.assertEqual(faces(HANDS, view, "bob"), [(0, (1,)), (2, (0,))])
        self.assertEqual(faces(view=view, other="bob", hands=HANDS), [(0, (1,)), (2, (0,))])

    def test_a_thing_told_as_new_more_than_once(self):
        view = seen("see ann 0 red", "see ann 1 old", "write ann bob : 1 old : 0 red", "write ann bob : 0 : 1")
        self.assertEqual(faces(HANDS, view, "bob"), [(0, (1, 2)), (1, (0, 3))])

    def test_nothing_said(self):
        view = seen("see ann 0 red", "write ann bob : 0", "write ann bob")
        self.assertEqual(faces(HANDS, view, "cy"), [])
        self.assertEqual(faces(HANDS, ("bob", ()), "ann"), [])
        # What is said, but isn't told of yet, isn't in the ground.
        self.assertEqual(faces(HANDS, view_of(of("see ann 0", "write ann bob : 0"), "ann"), "bob"), [])

    def test_they_go_by_the_views_end(self):
        rows = ("see ann 0 red", "see ann 0 old", "see ann 0", "write ann bob : 1 old : 0 red", "write ann bob : 2")
        view = seen(*rows)
        self.assertEqual(faces(HANDS, view, "bob"), [(0, (1,)), (1, (0,)), (2, (2,))])
        view = (view[0], view[1] + (("one", 2, 1),))
        self.assertEqual(faces(HANDS, view, "bob"), [(0, (1,)), (1, (0, 2))])
        view = (view[0], view[1] + (("see", ()), ("one", 2, 0)))
        self.assertEqual(faces(HANDS, view, "bob"), [(0, (0, 1, 2))])

    def test_least_cards_of_the_lots(self):
        # The slot's card is 2, its lot's least is 0.
        view = seen("see ann 0 red", "see ann 1", "see ann 0 old", "write ann bob : 2 old", "write ann bob",
                    "one ann 2 0")
        self.assertEqual(faces(HANDS, view, "bob"), [(0, (0,))])

    def test_slots_of_the_other(self):
        history = of("see ann 0 red", "write ann bob : 0 red", "read bob ann 1", "see bob 1 old",
                     "write bob ann : 1 old : 0 red", "read ann bob 1")
        self.assertEqual(ground_file(history, "ann", "bob")[0][0], (("ann", "bob", 1, 0), ("bob", "ann", 1, 1)))
        self.assertEqual(faces(HANDS, view_of(history, "ann"), "bob"), [(0, (0,)), (1, (1,))])
        self.assertEqual(faces(HANDS, view_of(history, "bob"), "ann"), [(0, (0,))])

    def test_what_is_told_is_new(self):
        view = seen("see ann 0", "write ann bob : 0", "write ann bob : 0")
        faces(HANDS, view, "bob").clear()
        self.assertEqual(faces(HANDS, view, "bob"), [(0, (0, 1))])


class Called(unittest.TestCase):
    def test_as_a_line_would_have_it(self):
        history = of("see ann 0 red", "see ann 1 big red", "see ann 2 old", "see ann 3",
                     "write ann bob : 0 red : 1 big red : 2 old", "read bob ann 1", "write bob ann", "read ann bob 1")
        view = view_of(history, "ann")
        for card, name in enumerate((None, ("big",), ("old",), None)):
            self.assertEqual(called(HANDS, view, "bob", card), name)
            self.assertEqual(called(card=card, other="bob", view=view, hands=HANDS), name)
            self.assertEqual(called(HANDS, view, "bob", card), name_for(history, "ann", "bob", card))
            self.assertIsNone(called(HANDS, view, "cy", card))

    def test_it_goes_by_the_views_end(self):
        view = seen("see ann 0 red", "see ann 0 big red", "write ann bob : 0 red : 1 big red", "write ann bob")
        self.assertIsNone(called(HANDS, view, "bob", 0))
        view = (view[0], view[1] + (("one", 0, 1),))
        self.assertEqual([called(HANDS, view, "bob", card) for card in (0, 1)], [(), ()])


class Hidden(unittest.TestCase):
    def test_a_card_with_a_name(self):
        view = seen("see ann 0 red", "see ann 1 big red", "write ann bob : 0 red : 1 big red", "write ann bob")
        self.assertIsNone(hidden(HANDS, view, "bob", 1))

    def test_a_card_whose_face_is_covered(self):
        view = seen("see ann 0 red", "see ann 1 big red", "see ann 2 red wet",
                    "write ann bob : 2 red wet : 0 red : 1 big red", "write ann bob")
        self.assertEqual(hidden(HANDS, view, "bob", 0), [(1, 0)])
        self.assertEqual(hidden(card=0, other="bob", view=view, hands=HANDS), [(1, 0)])

    def test_faces_covered_by_several_lots(self):
        # Its own faces don't cover one another: the first is covered by the lot behind both.
        view = seen("see ann 0 red", "see ann 1 big red", "write ann bob : 0 : 1 big red", "write ann bob : 0 red")
        self.assertEqual(faces(HANDS, view, "bob"), [(0, (0, 2)), (1, (1,))])
        self.assertEqual(hidden(HANDS, view, "bob", 0), [(0, 1), (2, 1)])
        view = seen("see ann 0 red", "see ann 1 big red", "see ann 2", "write ann bob : 0 red : 2 : 1 big red",
                    "write ann bob : 0")
        self.assertEqual(hidden(HANDS, view, "bob", 0), [(0, 2), (3, 1)])
        self.assertEqual(hidden(HANDS, view, "bob", 2), [(1, 0)])

    def test_lots_alike(self):
        view = seen("see ann 0 red", "see ann 1 red", "write ann bob : 0 red : 1 red", "write ann bob")
        self.assertEqual(hidden(HANDS, view, "bob", 0), [(0, 1)])
        self.assertEqual(hidden(HANDS, view, "bob", 1), [(1, 0)])

    def test_a_card_without_a_face(self):
        view = seen("see ann 0 red", "see ann 1 old", "write ann bob : 0 red", "write ann bob")
        self.assertEqual(hidden(HANDS, view, "bob", 1), [])
        self.assertEqual(hidden(HANDS, view, "cy", 0), [])

    def test_one_face_by_which_it_is_called_is_enough(self):
        view = seen("see ann 0 old red", "see ann 1 big red", "write ann bob : 0 red : 1 big red",
                    "write ann bob : 0 old")
        self.assertEqual(called(HANDS, view, "bob", 0), ("old",))
        self.assertIsNone(hidden(HANDS, view, "bob", 0))

    def test_what_is_told_is_new(self):
        view = seen("see ann 0", "see ann 1", "write ann bob : 0 : 1", "write ann bob")
        hidden(HANDS, view, "bob", 0).clear()
        self.assertEqual(hidden(HANDS, view, "bob", 0), [(0, 1)])


class Refused(unittest.TestCase):
    def refused(self, error, function, *arguments):
        with self.assertRaises(error, msg=(function, arguments)) as caught:
            function(*arguments)
        self.assertIs(type(caught.exception), error)
        return caught.exception

    def test_in_their_order(self):
        view = seen("see ann 0 red", "see ann 0", "see ann 1", "write ann bob : 0 red", "write ann bob")
        bent = ("ann", view[1] + (("look", 3, ()),))
        for function, rest in ((faces, ()), (called, (9,)), (hidden, (9,))):
            for bad in NO_HANDS:
                self.refused(NoHands, function, bad, "no view", "nobody", *rest)
            for bad, wrong in (("no view", ("view",)), (None, ("view",)), (("dan", ()), ("view",)),
                               (bent, ("entry", len(view[1])))):
                self.assertEqual(self.refused(NoView, function, HANDS, bad, "nobody", *rest).wrong, wrong)
            for bad in ("ann", "dan", "", None, True, 5, 0, ["bob"], ("bob",), HANDS):
                self.refused(NoHand, function, HANDS, view, bad, *rest)
        for function in (called, hidden):
            for bad in NO_CARDS:
                self.refused(NoCard, function, HANDS, view, "bob", bad)
            for card in (0, 1, 2):
                function(HANDS, view, "bob", card)


class ByChance(unittest.TestCase):
    def test_beside_histories(self):
        found = Counter()
        for seed in range(60):
            slow = by_chance(seed, 60)
            for hand, other in permutations(slow.hands, 2):
                self.check(slow, hand, other, found)
        self.assertLessEqual({"several", "called", "hidden", "none"}, {*found})

    def check(self, slow, hand, other, found):
        view = slow.view(hand)
        lots = listed(slow.ground_file(hand, other))
        of_card = {}
        for number, (slots, _) in enumerate(lots):
            least = {min(slow.lot(hand, slow.card_for[hand][slot])[0]) for slot in slots}
            self.assertEqual(len(least), 1)
            of_card.setdefault(*least, []).append(number)
        self.assertEqual(faces(slow.hands, view, other),
                         [(card, tuple(numbers)) for card, numbers in sorted(of_card.items())])
        for card in range(len(slow.things[hand])):
            name = called(slow.hands, view, other, card)
            self.assertEqual(name, name_for(slow.history(), hand, other, card))
            own = of_card.get(min(slow.lot(hand, card)[0]), [])
            told = hidden(slow.hands, view, other, card)
            if name is None:
                self.assertEqual(told, [(face, min(self.covers(lots, own, face))) for face in own])
                found["hidden" if own else "none"] += 1
            else:
                self.assertIsNone(told)
                # A face is singled out by all its words or by none.
                self.assertTrue([face for face in own if not self.covers(lots, own, face)])
                found["called"] += 1
            found["several"] += len(own) > 1

    def covers(self, lots, own, face):
        return [number for number in range(len(lots))
                if number not in own and {*lots[face][1]} <= {*lots[number][1]}]


if __name__ == "__main__":
    unittest.main()
