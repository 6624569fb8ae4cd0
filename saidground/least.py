"""Least histories: what stands in a hand's view, told as one history."""

from saidground.descriptions import fitting
from saidground.holdings import Holding
from saidground.talks import Talks
from saidground.worlds import World


def entry_of(talks, deed):
    """What the doer of a deed has of it in its view; its letter is one of the talks."""
    kind, hand, what, last = deed
    if kind == "see":
        return (kind, last)
    if kind == "read":
        told = talks.letters[(what, hand, last)]
        return (kind, what, last, told[3], told[4])
    return (kind, what, last)


def view_in(talks, deeds, hand):
    """The view that a hand has of these deeds, by which these talks came."""
    return hand, tuple([entry_of(talks, deed) for deed in deeds if deed[1] == hand])


def holding_of(view):
    """What the hand of a view holds at its end."""
    hand, entries = view
    held = Holding(hand, Talks())
    for entry in entries:
        if entry[0] == "see":
            held.lots.new(entry[1])
        elif entry[0] == "look":
            held.lots.learn(entry[1], entry[2])
        elif entry[0] == "one":
            held.lots.unite(entry[1], entry[2])
        elif entry[0] == "write":
            held.write(entry[1], entry[2])
        elif entry[1:3] not in held.names:
            take_letter(held, (entry[1], hand, *entry[2:]))
    return held


def take_letter(held, letter):
    """A hand reads a letter that its talks don't have yet."""
    writer, reader, number, names, lines = letter
    ground = held.talks.ground(writer, reader, names)
    held.talks.put(letter, held.talks.public_file(ground))
    held.read(letter)


class Making:
    """A least history in the making: its deeds so far, and the world that they make."""

    def __init__(self, hands, view):
        self.hand, self.entries = view
        self.own = holding_of(view)
        self.numbers = {lot[0][0]: number for number, lot in enumerate(self.own.lots.listed())}
        self.told = {entry[1:3]: entry[3:] for entry in self.entries if entry[0] == "read"}
        self.world = World(hands)
        self.deeds = []

    def do(self, deed):
        """Do one more deed."""
        self.world.do(deed)
        self.deeds.append(deed)

    def thing_of(self, card):
        """The thing of the hand's own card: its lot at the view's end."""
        return self.numbers[self.own.lots.head(card)]

    def write_thirds(self):
        """Third hands write what the names of read letters tell of, without lines."""
        greatest = {}
        for (reader, _), (names, _) in self.told.items():
            for writer, number in names:
                if writer != self.hand:
                    greatest[(writer, reader)] = max(number, greatest.get((writer, reader), 0))
        for writer, reader in sorted(greatest):
            for _ in range(greatest[(writer, reader)]):
                self.do(("write", writer, reader, ()))

    def do_own(self, entry):
        """Do the deed that an entry tells of, behind what must be ahead of it."""
        if entry[0] == "see":
            card = len(self.world.things[self.hand])
            self.do(("see", self.hand, self.thing_of(card), entry[1]))
        elif entry[0] == "read":
            self.write_up_to(entry[1], entry[2])
            self.do(("read", self.hand, entry[1], entry[2]))
        else:
            self.do((entry[0], self.hand, entry[1], entry[2]))

    def write_up_to(self, writer, number):
        """Another hand writes its letters up to that number, those that are lost without lines."""
        for earlier in range(self.world.held[writer].written(self.hand) + 1, number + 1):
            if (writer, earlier) in self.told:
                self.write_told(writer, earlier)
            else:
                self.do(("write", writer, self.hand, ()))

    def write_told(self, writer, number):
        """Another hand writes a letter that the hand reads, behind what its names tell of."""
        names, lines = self.told[(writer, number)]
        held = self.world.held[writer]
        for name in names:
            if name not in held.names:
                self.do(("read", writer, *name))
        lots = held.ground_file(self.hand)
        written = []
        for k, (name, words) in enumerate(lines):
            if name is None:
                card = self.see_new((writer, self.hand, number, k), words)
            else:
                card = self.find_one(writer, [lots[at][0] for at in fitting(lots, name)], words)
            written.append((card, words))
        self.do(("write", writer, self.hand, tuple(written)))

    def see_new(self, slot, words):
        """The writer sees the thing of a new line: its card."""
        card = len(self.world.things[slot[0]])
        self.do(("see", slot[0], self.thing_of(self.own.cards[slot]), words))
        return card

    def find_one(self, writer, meant, words):
        """The writer finds all that it has for slots that are meant to be one: the least card."""
        held = self.world.held[writer]
        cards = sorted({held.cards[slot] for slots in meant for slot in slots})
        for other in cards:
            if held.lots.head(other) != held.lots.head(cards[0]):
                self.do(("one", writer, cards[0], other))
        unknown = held.lots.unknown(cards[0], words)
        if unknown:
            self.do(("look", writer, cards[0], unknown))
        return cards[0]


def least_of(hands, view):
    """The least history of a view, with these hands."""
    making = Making(hands, view)
    making.write_thirds()
    for entry in making.entries:
        making.do_own(entry)
    return hands, tuple(making.deeds)
