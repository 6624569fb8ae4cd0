"""Least histories: what stands in a hand's view, told as one history."""

from saidground.descriptions import fitting
from saidground.holdings import Holding
from saidground.talks import Talks, names_can_stand
from saidground.worlds import World


def holding_of(view):
    """What the hand of a view holds at its end, None where an entry can't be done, or read, there."""
    held = Holding(view[0], Talks())
    for entry in view[1]:
        if not take(held, entry):
            return None
    return held


def take(held, entry):
    """Do what an entry tells; whether it can be done."""
    kind = entry[0]
    if kind == "see":
        held.lots.new(entry[1])
        return True
    if kind == "read":
        return take_letter(held, (entry[1], held.hand, *entry[2:]))
    what, last = entry[1:]
    if kind == "write":
        if what == held.hand or not held.lots.has_all(last) or not held.lots.may_stand(last):
            return False
        held.write(what, last)
    elif not held.lots.has(what):
        return False
    elif kind == "look":
        held.lots.learn(what, last)
    elif not held.lots.has(last):
        return False
    else:
        held.lots.unite(what, last)
    return True


def take_letter(held, letter):
    """Read a letter; whether it can have come, as far as what is read tells. Its names' safety is not asked."""
    writer, reader, number, names, lines = letter
    if letter[:3] in held.talks.letters:
        return held.talks.letters[letter[:3]] == letter
    if writer == reader or not names_can_be(held, letter):
        return False
    ground = held.talks.ground(writer, reader, names)
    held.talks.put(letter, held.talks.public_file(ground))
    if not all(held.talks.meanings(letter)):
        return False
    held.read(letter)
    return True


def names_can_be(held, letter):
    """Whether a letter's names tell of letters that are there, and can stand beside those read ahead."""
    writer, reader, number, names, lines = letter
    if any([hand == writer or (hand == reader and told > held.written(writer)) for hand, told in names]):
        return False
    read = [told for hand, told in held.names if hand == writer]
    return names_can_stand(number, names, {told: held.talks.letters[(writer, reader, told)][3] for told in read})


class Making:
    """A least history in the making: what its hand holds at the end, and the world of its deeds so far."""

    def __init__(self, hands, view, own):
        self.hand, self.entries = view
        self.own = own
        self.numbers = {lot[0][0]: number for number, lot in enumerate(own.lots.listed())}
        self.told = {entry[1:3]: entry[3:] for entry in self.entries if entry[0] == "read"}
        self.world = World(hands)

    def thing_of(self, card):
        """The thing of the hand's own card: its lot at the view's end."""
        return self.numbers[self.own.lots.head(card)]

    def write_thirds(self):
        """Third hands write what the names of read letters tell of, without lines."""
        greatest = {}
        for (reader, _), (names, _) in self.told.items():
            for writer, number in names:
                if writer != self.hand:
                    greatest[(writer, reader)] = max(number, greatest.get((writer, reader), 0))
        for writer, reader in sorted(greatest):
            for _ in range(greatest[(writer, reader)]):
                self.world.do(("write", writer, reader, ()))

    def do_own(self, entry):
        """Do the deed that an entry tells of, behind what must be ahead of it; whether that can be made."""
        if entry[0] == "see":
            card = len(self.world.things[self.hand])
            self.world.do(("see", self.hand, self.thing_of(card), entry[1]))
            return True
        if entry[0] == "read" and not self.write_up_to(entry[1], entry[2]):
            return False
        self.world.do((entry[0], self.hand, entry[1], entry[2]))
        return True

    def write_up_to(self, writer, number):
        """Another hand writes its letters up to that number, those that are lost without lines."""
        for earlier in range(self.world.held[writer].written(self.hand) + 1, number + 1):
            if (writer, earlier) not in self.told:
                self.world.do(("write", writer, self.hand, ()))
            elif not self.write_told(writer, earlier):
                return False
        return True

    def write_told(self, writer, number):
        """Another hand writes a letter that the hand reads; whether it is the one that the hand reads."""
        names, lines = self.told[(writer, number)]
        held = self.world.held[writer]
        for name in names:
            if name not in held.names:
                self.world.do(("read", writer, *name))
        lots = held.ground_file(self.hand)
        written = []
        for k, (name, words) in enumerate(lines):
            if name is None:
                card = self.see_new((writer, self.hand, number, k), words)
            else:
                card = self.find_one(writer, [lots[at][0] for at in fitting(lots, name)], words)
            written.append((card, words))
        deed = ("write", writer, self.hand, tuple(written))
        if not self.world.can(deed):
            return False
        self.world.do(deed)
        return self.world.talks.letters[(writer, self.hand, number)][3:] == (names, lines)

    def see_new(self, slot, words):
        """The writer sees the thing of a new line: its card."""
        card = len(self.world.things[slot[0]])
        self.world.do(("see", slot[0], self.thing_of(self.own.cards[slot]), words))
        return card

    def find_one(self, writer, meant, words):
        """The writer finds all that it has for slots that are meant to be one: the least card."""
        held = self.world.held[writer]
        cards = sorted({held.cards[slot] for slots in meant for slot in slots})
        for other in cards:
            if held.lots.head(other) != held.lots.head(cards[0]):
                self.world.do(("one", writer, cards[0], other))
        unknown = held.lots.unknown(cards[0], words)
        if unknown:
            self.world.do(("look", writer, cards[0], unknown))
        return cards[0]


def least_world(hands, view):
    """The world of a view's least history, None where what has a view's form is none."""
    own = holding_of(view)
    if own is None:
        return None
    making = Making(hands, view, own)
    making.write_thirds()
    for entry in making.entries:
        if not making.do_own(entry):
            return None
    return making.world
