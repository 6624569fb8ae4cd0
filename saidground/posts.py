"""Posts: a history that grows by one deed after the other, and goes back."""

from saidground.errors import NoBack, NoDeed, NoHand, NoHands
from saidground.forms import are_hands, is_deed
from saidground.worlds import World


class Post:
    """A history of these hands, without deeds at first.

    Each deed is done on a copy of the world behind those ahead of it, so the
    deed is taken back by going back to that one, and a copy of the post may
    have the same worlds.
    """

    def __init__(self, hands):
        if not are_hands(hands):
            raise NoHands()
        self.world = World(hands)
        self.past = []

    def see(self, hand, thing, words):
        """The number of the hand's new card of a thing."""
        self.do(("see", hand, thing, words))
        return len(self.world.things[hand]) - 1

    def look(self, hand, card, words):
        """The hand sees words of a card's thing."""
        self.do(("look", hand, card, words))

    def one(self, hand, card, other):
        """The hand finds that two cards are of one thing."""
        self.do(("one", hand, card, other))

    def write(self, hand, to, lines):
        """The hand's next letter to another one."""
        self.do(("write", hand, to, lines))
        return self.world.talks.letters[(hand, to, self.world.held[hand].written(to))]

    def read(self, hand, writer, number):
        """The hand's cards for a letter's lines, each the least of its lot; None where it read it ahead."""
        before = self.world.held
        self.do(("read", hand, writer, number))
        if (writer, number) in before[hand].names:
            return None
        held = self.world.held[hand]
        return [held.lots.head(held.cards[slot]) for slot in self.world.talks.slots([(writer, hand, number)])]

    def back(self):
        """Take the last deed back."""
        if not self.past:
            raise NoBack()
        self.world = self.past.pop()

    def history(self):
        """The history of the deeds done."""
        return self.world.history()

    def on_way(self, hand):
        """The letters to the hand that it hasn't read, tuples (writer, number), as they were written."""
        if hand not in self.world.hands:
            raise NoHand()
        return [(key[0], key[2]) for key in self.world.unread() if key[1] == hand]

    def copy(self):
        """Another post of the same history, to go on by itself."""
        twin = Post(self.world.hands)
        twin.world = self.world
        twin.past = list(self.past)
        return twin

    def __len__(self):
        return len(self.world.deeds)

    def __eq__(self, other):
        return isinstance(other, Post) and self.history() == other.history()

    def do(self, deed):
        """Do a deed; refused where it is none, or can't be done."""
        if not is_deed(deed, self.world.hands):
            raise NoDeed(("deed", len(self.world.deeds)))
        if not self.world.can(deed):
            raise NoDeed(("done", len(self.world.deeds)))
        self.past.append(self.world)
        self.world = self.world.copy()
        self.world.do(deed)
