"""What one hand holds: its cards in lots, its cards for slots, the letters that it read."""

from saidground.descriptions import name_in
from saidground.lots import Lots


class Holding:
    """One hand's side of its talks; talks has at least the letters that it wrote or read."""

    def __init__(self, hand, talks):
        self.hand = hand
        self.talks = talks
        self.lots = Lots()
        self.cards = {}
        self.names = {}
        self.counts = {}

    def among(self, talks):
        """The same, to go on by itself among a copy of its talks."""
        twin = Holding(self.hand, talks)
        twin.lots = self.lots.copy()
        twin.cards = {slot: self.cards[slot] for slot in self.cards}
        twin.names = {name: True for name in self.names}
        twin.counts = dict(self.counts)
        return twin

    def written(self, other):
        """How many letters it wrote to the other."""
        return self.counts.get(other, 0)

    def ground(self, other):
        """The keys, rising, of the ground of its next letter to the other."""
        return self.talks.ground(self.hand, other, list(self.names))

    def ground_file(self, other):
        """The public file of that ground."""
        return self.talks.public_file(self.ground(other))

    def held_as(self, lots):
        """As which of its lots, by their least cards, it holds those of a ground's file, each with its words."""
        # A lot there is one for both hands, so its first slot tells it.
        return [(self.lots.head(self.cards[slots[0]]), words) for slots, words in lots]

    def name(self, lots, card):
        """The least description that is safe for the card in these lots, None where there is none."""
        return name_in(self.held_as(lots), self.lots.head(card))

    def write(self, other, lines):
        """Write the next letter to the other, and put it into the talks."""
        lots = self.ground_file(other)
        number = self.written(other) + 1
        held = self.held_as(lots)
        told = tuple([(name_in(held, self.lots.head(card)), words) for card, words in lines])
        letter = (self.hand, other, number, tuple(sorted(self.names)), told)
        self.talks.put(letter, lots)
        self.counts[other] = number
        for k, line in enumerate(lines):
            self.cards[(self.hand, other, number, k)] = line[0]
        return letter

    def read(self, letter):
        """Read a letter that is in the talks, and wasn't read yet."""
        self.names[(letter[0], letter[2])] = True
        for k, (name, words) in enumerate(letter[4]):
            slot = (*letter[:3], k)
            if name is None:
                self.cards[slot] = self.lots.new(words)
            else:
                self.read_description(slot, words)

    def read_description(self, slot, words):
        """All cards for the slots that are meant become one lot, of which the words are known."""
        cards = [self.cards[other] for other in self.talks.meant[slot]]
        for card in cards:
            self.lots.unite(cards[0], card)
        self.lots.learn(cards[0], words)
        self.cards[slot] = cards[0]

    def slots(self):
        """All slots of letters that it wrote or read, rising, each with the least card of its lot."""
        return {slot: self.lots.head(self.cards[slot]) for slot in sorted(self.cards)}
