"""What one hand holds: its cards in lots, its cards for slots, the letters that it read."""

from saidground.descriptions import least_safe
from saidground.lots import Lots


class Holding:
    """One hand's side of its talks; talks has at least the letters that it wrote or read."""

    def __init__(self, hand, talks):
        self.hand = hand
        self.talks = talks
        self.lots = Lots()
        self.cards = {}
        self.names = {}
        self.counts = {}

    def written(self, other):
        """How many letters it wrote to the other."""
        return self.counts.get(other, 0)

    def ground(self, other):
        """The keys, rising, of the ground of its next letter to the other."""
        return self.talks.ground(self.hand, other, list(self.names))

    def ground_file(self, other):
        """The public file of that ground."""
        return self.talks.public_file(self.ground(other))

    def is_other(self, slots, card):
        """Whether one of its cards for these slots isn't in the card's lot."""
        head = self.lots.head(card)
        return any([self.lots.head(self.cards[slot]) != head for slot in slots])

    def name(self, lots, card):
        """The least description that is safe for the card in these lots, None where there is none."""
        faces = []
        others = []
        for slots, words in lots:
            if self.is_other(slots, card):
                others.append(words)
            else:
                faces.append(words)
        return least_safe(faces, others)

    def write(self, other, lines):
        """Write the next letter to the other, and put it into the talks."""
        lots = self.ground_file(other)
        number = self.written(other) + 1
        told = tuple([(self.name(lots, card), words) for card, words in lines])
        letter = (self.hand, other, number, tuple(sorted(self.names)), told)
        self.talks.put(letter, lots)
        self.counts[other] = number
        for k, line in enumerate(lines):
            self.cards[(self.hand, other, number, k)] = line[0]
        return letter

    def read(self, letter):
        """Read a letter that is in the talks, and wasn't read yet."""
        self.names[(letter[0], letter[2])] = True
        for k, (name, words) in enumerate(letter[4]):
            slot = (*letter[:3], k)
            if name is None:
                self.cards[slot] = self.lots.new(words)
            else:
                self.read_description(slot, words)

    def read_description(self, slot, words):
        """All cards for the slots that are meant become one lot, of which the words are known."""
        cards = [self.cards[other] for other in self.talks.meant[slot]]
        for card in cards:
            self.lots.unite(cards[0], card)
        self.lots.learn(cards[0], words)
        self.cards[slot] = cards[0]

    def slots(self):
        """All slots of letters that it wrote or read, rising, each with the least card of its lot."""
        return {slot: self.lots.head(self.cards[slot]) for slot in sorted(self.cards)}
