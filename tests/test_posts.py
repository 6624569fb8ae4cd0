"""Point 60: a post, its deeds, and how it goes back."""

import time
import unittest
from collections import Counter
from random import Random

from saidground.errors import NoBack, NoDeed, NoHand, NoHands
from saidground.hands import Hand
from saidground.histories import history_wrong, read_history
from saidground.letters import letters, unread
from saidground.posts import Post
from tests.helper import by_chance, played, some_deed

HANDS = ("ann", "bob", "cy")


def do(post, deed):
    """What a post tells of a deed."""
    return getattr(post, deed[0])(*deed[1:])


def posted(history):
    """A post on which all deeds of a history were done."""
    post = Post(history[0])
    for deed in history[1]:
        do(post, deed)
    return post


class Deeds(unittest.TestCase):
    def test_without_deeds_at_first(self):
        for hands in (("ann", "bob"), HANDS, ("a", "b", "c", "d", "e")):
            post = Post(hands)
            self.assertEqual((post.history(), len(post)), ((hands, ()), 0))
            for hand in hands:
                self.assertEqual(post.on_way(hand), [])
        self.assertEqual(Post(hands=HANDS).history(), (HANDS, ()))

    def test_hands_that_are_none(self):
        for bad in (None, True, 5, "ann", (), ("ann",), ["ann", "bob"], ("bob", "ann"), ("ann", "ann"), ("ann", 5),
                    ("ann", "Bob"), ("a", "b", "c", "d", "e", "f"), ("ann", "toolongaa")):
            with self.assertRaises(NoHands) as caught:
                Post(bad)
            self.assertIs(type(caught.exception), NoHands)

    def test_each_deed_and_what_it_tells(self):
        post = Post(HANDS)
        self.assertEqual([post.see("ann", 7, ("red",)), post.see("bob", 7, ()), post.see("ann", 7, ("big", "old"))],
                         [0, 0, 1])
        self.assertIsNone(post.look("bob", 0, ("wet",)))
        self.assertEqual(post.write("ann", "bob", ((1, ("old",)), (0, ("red",)))),
                         ("ann", "bob", 1, (), ((None, ("old",)), (None, ("red",)))))
        self.assertIsNone(post.one("ann", 1, 0))
        self.assertEqual(post.write("ann", "bob", ()), ("ann", "bob", 2, (), ()))
        self.assertEqual(post.write("ann", "cy", ((0, ()),)), ("ann", "cy", 1, (), ((None, ()),)))
        self.assertEqual(post.read("bob", "ann", 1), [1, 2])
        self.assertEqual(post.read("bob", "ann", 2), [])
        self.assertIsNone(post.read("bob", "ann", 2))
        self.assertIsNone(post.one("bob", 2, 0))
        self.assertEqual(post.write("bob", "ann", ((2, ("wet",)),)),
                         ("bob", "ann", 1, (("ann", 1), ("ann", 2)), ((("red",), ("wet",)),)))
        self.assertEqual(post.read("ann", "bob", 1), [0])
        self.assertIsNone(post.read("ann", "bob", 1))
        self.assertEqual(post.history(), read_history([
            "hands ann bob cy", "see ann 7 red", "see bob 7", "see ann 7 big old", "look bob 0 wet",
            "write ann bob : 1 old : 0 red", "one ann 1 0", "write ann bob", "write ann cy : 0", "read bob ann 1",
            "read bob ann 2", "read bob ann 2", "one bob 2 0", "write bob ann : 2 wet", "read ann bob 1",
            "read ann bob 1"]))
        self.assertEqual(len(post), 15)

    def test_by_names(self):
        post = Post(HANDS)
        self.assertEqual(post.see(words=("red",), thing=3, hand="ann"), 0)
        self.assertEqual(post.see(words=(), thing=3, hand="ann"), 1)
        self.assertIsNone(post.look(words=("old",), card=0, hand="ann"))
        self.assertIsNone(post.one(other=1, card=0, hand="ann"))
        self.assertEqual(post.write(lines=((1, ()),), to="bob", hand="ann"), ("ann", "bob", 1, (), ((None, ()),)))
        self.assertEqual(post.on_way(hand="bob"), [("ann", 1)])
        self.assertEqual(post.read(number=1, writer="ann", hand="bob"), [0])
        self.assertEqual(post.history()[1][-1], ("read", "bob", "ann", 1))

    def test_read_tells_the_least_cards_behind_the_whole_letter(self):
        # What is wet is one with what is old for ann alone: by bob's second line it is one with all that is big.
        post = posted(read_history([
            "hands ann bob", "see ann 0 big red", "see ann 0 wet", "see ann 0 big old",
            "write ann bob : 0 big red : 1 wet : 2 big old", "one ann 1 2", "read bob ann 1", "one bob 0 2",
            "write bob ann : 1 : 0"]))
        self.assertEqual(post.read("ann", "bob", 1), [0, 0])

    def test_what_is_told_is_new(self):
        post = Post(HANDS)
        post.see("ann", 0, ())
        post.write("ann", "bob", ((0, ()),))
        before = post.history()
        post.on_way("bob").clear()
        self.assertEqual(post.on_way("bob"), [("ann", 1)])
        post.read("bob", "ann", 1).clear()
        self.assertEqual(post.write("bob", "ann", ((0, ()),))[4], (((), ()),))
        self.assertEqual(before, (HANDS, post.history()[1][:2]))


class Refused(unittest.TestCase):
    def setUp(self):
        self.post = posted(read_history(["hands ann bob cy", "see ann 0 red", "see ann 1", "see bob 1",
                                         "write ann bob : 0 red", "write ann bob", "read bob ann 2"]))

    def refused(self, *deed):
        """A deed that is none, or can't be done; the field that it is refused with."""
        history = self.post.history()
        ways = [self.post.on_way(hand) for hand in HANDS]
        wrong = history_wrong((history[0], (*history[1], deed)))
        with self.assertRaises(NoDeed, msg=deed) as caught:
            do(self.post, deed)
        self.assertIs(type(caught.exception), NoDeed)
        self.assertEqual(caught.exception.wrong, wrong, deed)
        self.assertEqual((self.post.history(), len(self.post)), (history, 6))
        self.assertEqual([self.post.on_way(hand) for hand in HANDS], ways)
        return wrong

    def test_of_no_form(self):
        for deed in (("see", "dan", 0, ()), ("see", ["ann"], 0, ()), ("see", None, 0, ()), ("see", "ann", True, ()),
                     ("see", "ann", -1, ()), ("see", "ann", "0", ()), ("see", "ann", 0, ["red"]),
                     ("see", "ann", 0, ("red", "old")), ("see", "ann", 0, None), ("look", "dan", 0, ()),
                     ("look", "ann", False, ()), ("look", "ann", None, ()), ("look", "ann", 9, "red"),
                     ("one", "ann", 0, True), ("one", "ann", False, 0), ("one", 5, 0, 0), ("one", "ann", 0, None),
                     ("write", "ann", "ann", ()), ("write", "ann", "dan", ()), ("write", "dan", "ann", ()),
                     ("write", "ann", "bob", []), ("write", "ann", "bob", ((True, ()),)),
                     ("write", "ann", "bob", ((0, ("Red",)),)), ("write", "ann", "bob", ((9,),)),
                     ("read", "ann", "ann", 1), ("read", "bob", "dan", 1), ("read", "bob", "ann", 0),
                     ("read", "bob", "ann", True), ("read", "bob", "ann", "1"), ("read", "bob", "ann", None)):
            self.assertEqual(self.refused(*deed), ("deed", 6))

    def test_that_can_not_be_done(self):
        for deed in (("look", "ann", 2, ()), ("look", "bob", 1, ("red",)), ("look", "cy", 0, ()), ("one", "ann", 0, 1),
                     ("one", "ann", 0, 2), ("one", "ann", 2, 2), ("write", "ann", "bob", ((2, ()),)),
                     ("write", "ann", "bob", ((0, ()), (0, ()))), ("write", "ann", "bob", ((0, ("old",)),)),
                     ("write", "cy", "bob", ((0, ()),)), ("read", "bob", "ann", 3), ("read", "ann", "bob", 1),
                     ("read", "cy", "ann", 1), ("read", "bob", "ann", 10 ** 9)):
            self.assertEqual(self.refused(*deed), ("done", 6))

    def test_on_way_of_no_hand(self):
        for bad in ("dan", "", None, True, 5, ["ann"], ("ann",), "Ann", HANDS):
            with self.assertRaises(NoHand) as caught:
                self.post.on_way(bad)
            self.assertIs(type(caught.exception), NoHand)

    def test_back_of_nothing(self):
        post = Post(HANDS)
        for _ in range(2):
            with self.assertRaises(NoBack) as caught:
                post.back()
            self.assertIs(type(caught.exception), NoBack)
        self.assertEqual(post.see("ann", 0, ()), 0)
        self.assertIsNone(post.back())
        with self.assertRaises(NoBack):
            post.back()
        self.assertEqual(post.history(), (HANDS, ()))

    def test_what_was_refused_is_not_taken_back(self):
        with self.assertRaises(NoDeed):
            self.post.look("ann", 2, ())
        self.post.back()
        self.assertEqual(len(self.post), 5)
        self.assertEqual(self.post.on_way("bob"), [("ann", 1), ("ann", 2)])


class Back(unittest.TestCase):
    ROWS = ("see ann 7 red", "see bob 7", "look bob 0 wet", "write ann bob : 0 red", "read bob ann 1", "one bob 1 0",
            "write bob ann : 1 wet", "read ann bob 1", "look ann 0 old", "write ann bob : 0 old", "read bob ann 2",
            "read bob ann 1")

    def test_behind_each_kind_of_deed(self):
        history = read_history(["hands ann bob", *self.ROWS])
        deeds = history[1]
        post = Post(history[0])
        told = []
        for many, deed in enumerate(deeds):
            first = do(post, deed)
            self.assertIsNone(post.back())
            self.assertEqual((post.history(), len(post)), ((history[0], deeds[:many]), many))
            told.append(do(post, deed))
            self.assertEqual(told[-1], first)
        for many in range(len(deeds) - 1, -1, -1):
            post.back()
            self.assertEqual((post.history(), len(post)), ((history[0], deeds[:many]), many))
            self.assertEqual(post.copy(), posted((history[0], deeds[:many])))
        with self.assertRaises(NoBack):
            post.back()
        self.assertEqual([do(post, deed) for deed in deeds], told)
        self.assertEqual(post.history(), history)

    def test_a_card_that_was_seen_is_gone(self):
        post = Post(HANDS)
        post.see("ann", 0, ("red",))
        post.back()
        with self.assertRaises(NoDeed) as caught:
            post.look("ann", 0, ())
        self.assertEqual(caught.exception.wrong, ("done", 0))
        self.assertEqual(post.see("ann", 1, ()), 0)
        with self.assertRaises(NoDeed):
            post.write("ann", "bob", ((0, ("red",)),))

    def test_what_was_found_learnt_or_read_is_so_no_more(self):
        post = posted(read_history(["hands ann bob", "see ann 0 red", "see ann 0", "one ann 0 1"]))
        post.back()
        self.assertEqual(post.write("ann", "bob", ((0, ()), (1, ()))), ("ann", "bob", 1, (), ((None, ()), (None, ()))))
        post.look("ann", 0, ("old",))
        post.back()
        with self.assertRaises(NoDeed):
            post.write("ann", "bob", ((0, ("old",)),))
        self.assertEqual(post.read("bob", "ann", 1), [0, 1])
        post.back()
        self.assertEqual(post.on_way("bob"), [("ann", 1)])
        self.assertEqual(post.write("bob", "ann", ()), ("bob", "ann", 1, (), ()))
        self.assertEqual(post.read("bob", "ann", 1), [0, 1])

    def test_a_letter_that_was_written_is_gone(self):
        post = Post(HANDS)
        post.write("ann", "bob", ())
        post.back()
        self.assertEqual(post.on_way("bob"), [])
        with self.assertRaises(NoDeed):
            post.read("bob", "ann", 1)
        post.see("ann", 0, ())
        self.assertEqual(post.write("ann", "bob", ((0, ()),)), ("ann", "bob", 1, (), ((None, ()),)))


class OnWay(unittest.TestCase):
    def test_written_read_read_twice_and_out_of_order(self):
        post = Post(HANDS)
        ways = lambda: [post.on_way(hand) for hand in HANDS]
        for writer, reader in (("cy", "bob"), ("ann", "bob"), ("cy", "bob"), ("bob", "ann"), ("ann", "bob")):
            post.write(writer, reader, ())
        self.assertEqual(ways(), [[("bob", 1)], [("cy", 1), ("ann", 1), ("cy", 2), ("ann", 2)], []])
        post.read("bob", "cy", 2)
        self.assertEqual(ways(), [[("bob", 1)], [("cy", 1), ("ann", 1), ("ann", 2)], []])
        post.read("bob", "cy", 2)
        self.assertEqual(ways(), [[("bob", 1)], [("cy", 1), ("ann", 1), ("ann", 2)], []])
        post.read("bob", "ann", 1)
        post.read("ann", "bob", 1)
        self.assertEqual(ways(), [[], [("cy", 1), ("ann", 2)], []])
        post.write("bob", "cy", ())
        self.assertEqual(ways(), [[], [("cy", 1), ("ann", 2)], [("bob", 1)]])


class CopiesAndEquals(unittest.TestCase):
    def test_copies_go_on_apart(self):
        post = posted(read_history(["hands ann bob", "see ann 0 red", "write ann bob : 0 red"]))
        copy = post.copy()
        self.assertIs(type(copy), Post)
        self.assertIsNot(copy, post)
        self.assertEqual(copy.history(), post.history())
        self.assertEqual(copy.read("bob", "ann", 1), [0])
        self.assertEqual((len(post), post.on_way("bob"), copy.on_way("bob")), (2, [("ann", 1)], []))
        self.assertEqual(post.write("ann", "bob", ()), ("ann", "bob", 2, (), ()))
        self.assertEqual(post.see("ann", 1, ()), 1)
        self.assertEqual(copy.see("ann", 2, ()), 1)
        self.assertEqual(copy.on_way("bob"), [])
        self.assertEqual(copy.write("bob", "ann", ((0, ()),))[4], (((), ()),))
        self.assertEqual((len(post), len(copy)), (4, 5))
        for _ in range(5):
            copy.back()
        self.assertEqual((len(post), len(copy), post.on_way("bob")), (4, 0, [("ann", 1), ("ann", 2)]))
        with self.assertRaises(NoBack):
            copy.back()
        for _ in range(4):
            post.back()

    def test_a_copy_goes_back_behind_where_it_was_made(self):
        post = posted(read_history(["hands ann bob", "see ann 0 red", "see ann 1"]))
        copy = post.copy()
        post.back()
        post.back()
        self.assertEqual(len(copy), 2)
        copy.look("ann", 1, ("wet",))
        copy.back()
        copy.back()
        self.assertEqual(copy.history(), (("ann", "bob"), (("see", "ann", 0, ("red",)),)))

    def test_equals_by_either_one(self):
        rows = ["hands ann bob", "see ann 0 red", "write ann bob : 0 red"]
        one, other = posted(read_history(rows)), posted(read_history(rows))
        self.assertTrue(one == other and other == one and one == one and not one != other)
        other.see("ann", 0, ())
        self.assertFalse(one == other or other == one)
        other.back()
        self.assertTrue(one == other and other == one)
        # The same history, on another way.
        one.read("bob", "ann", 1)
        one.back()
        self.assertTrue(one == other and other == one)
        # The same deeds of other hands; the same view of all, but of other things.
        more = posted(read_history(["hands ann bob cy", *rows[1:]]))
        things = posted(read_history([rows[0], "see ann 1 red", rows[2]]))
        for unlike in (more, things, Post(("ann", "bob"))):
            self.assertIs(one == unlike, False)
            self.assertIs(unlike == one, False)
            self.assertIs(one != unlike, True)
        self.assertIs(Post(("ann", "bob")) == Post(("ann", "bob")), True)

    def test_equals_of_anything_else(self):
        post = Post(("ann", "bob"))
        for other in (None, True, False, 0, "post", (), [], post.history(), [post], Hand("ann", HANDS)):
            self.assertIs(post == other, False)
            self.assertIs(other == post, False)
            self.assertIs(post != other, True)

    def test_len(self):
        post = Post(("ann", "bob"))
        for many in range(5):
            self.assertEqual(len(post), many)
            post.see("ann", 0, ())
        post.back()
        self.assertEqual(len(post), 4)


class ByChance(unittest.TestCase):
    def test_beside_hands_by_themselves(self):
        for seed in range(40):
            slow = by_chance(seed, 60)
            post = Post(slow.hands)
            alone = {name: Hand(name, slow.hands) for name in slow.hands}
            there = {}
            for deed in slow.deeds:
                kind, hand, what, last = deed
                told = do(post, deed)
                if kind == "see":
                    self.assertEqual(told, alone[hand].see(last))
                elif kind == "read":
                    self.assertEqual(told, alone[hand].read(there[what, hand, last]))
                else:
                    self.assertEqual(told, getattr(alone[hand], kind)(what, last))
                    if kind == "write":
                        there[told[:3]] = told
            self.assertEqual(post.history(), slow.history())
            self.assertEqual(list(there.values()), letters(post.history()))

    def test_back_and_forth(self):
        found = Counter()
        for seed in range(20):
            slow = by_chance(seed, 15)
            chance = Random(seed)
            post = posted(slow.history())
            deeds = list(slow.deeds)
            for _ in range(40):
                if deeds and chance.random() < 0.35:
                    deeds.pop()
                    post.back()
                else:
                    deed = some_deed(chance, played((slow.hands, deeds)), [("old", "red")] * 6)
                    wrong = history_wrong((slow.hands, (*deeds, deed)))
                    found[wrong and wrong[0]] += 1
                    if wrong is None:
                        deeds.append(deed)
                        do(post, deed)
                    else:
                        with self.assertRaises(NoDeed) as caught:
                            do(post, deed)
                        self.assertEqual(caught.exception.wrong, wrong)
                history = (slow.hands, tuple(deeds))
                self.assertEqual((post.history(), len(post)), (history, len(deeds)))
                for hand in slow.hands:
                    on_way = [(writer, number) for writer, reader, number in unread(history) if reader == hand]
                    self.assertEqual(post.on_way(hand), on_way)
        self.assertLessEqual({None, "done"}, {*found})

    def test_a_long_post_and_all_of_it_back(self):
        start = time.monotonic()
        slow = by_chance(8, 200)
        post = posted(slow.history())
        for many in range(200, 0, -1):
            self.assertEqual(post.copy(), post)
            self.assertEqual(len(post), many)
            post.back()
        self.assertEqual(len(post), 0)
        self.assertLess(time.monotonic() - start, 20)


if __name__ == "__main__":
    unittest.main()
