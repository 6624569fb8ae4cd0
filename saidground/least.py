"""Least histories: what stands in one view, or in several of one history, told as one history."""

from saidground.descriptions import fitting
from saidground.holdings import Holding
from saidground.lots import Lots
from saidground.talks import Talks, are_among, names_can_stand
from saidground.worlds import World


def holding_of(view):
    """What the hand of a view holds at its end, None where an entry can't be done, or read, there."""
    held = Holding(view[0], Talks())
    for entry in view[1]:
        if not take(held, entry):
            return None
    return held


def take(held, entry):
    """Do what an entry tells; whether it can be done."""
    kind = entry[0]
    if kind == "see":
        held.lots.new(entry[1])
        return True
    if kind == "read":
        return take_letter(held, (entry[1], held.hand, *entry[2:]))
    what, last = entry[1:]
    if kind == "write":
        if what == held.hand or not held.lots.has_all(last) or not held.lots.may_stand(last):
            return False
        held.write(what, last)
    elif not held.lots.has(what):
        return False
    elif kind == "look":
        held.lots.learn(what, last)
    elif not held.lots.has(last):
        return False
    else:
        held.lots.unite(what, last)
    return True


def take_letter(held, letter):
    """Read a letter; whether it can have come, as far as what is read tells. Its names' safety is not asked."""
    writer, reader, number, names, lines = letter
    if letter[:3] in held.talks.letters:
        return held.talks.letters[letter[:3]] == letter
    if writer == reader or not names_can_be(held, letter):
        return False
    ground = held.talks.ground(writer, reader, names)
    held.talks.put(letter, held.talks.public_file(ground))
    if not all(held.talks.meanings(letter)):
        return False
    held.read(letter)
    return True


def names_can_be(held, letter):
    """Whether a letter's names tell of letters that are there, and can stand beside those read ahead."""
    writer, reader, number, names, lines = letter
    if any([hand == writer or (hand == reader and told > held.written(writer)) for hand, told in names]):
        return False
    read = [told for hand, told in held.names if hand == writer]
    return names_can_stand(number, names, {told: held.talks.letters[(writer, reader, told)][3] for told in read})


def things_of(held):
    """The number of the thing of each card of the inner hands, by (hand, card): held is what each holds at the end."""
    lots = Lots()
    places = {}
    for hand in held:
        for card, head in enumerate(held[hand].lots.heads):
            places[(hand, card)] = lots.new(())
            lots.unite(places[(hand, head)], places[(hand, card)])
    for hand in held:
        for slot, card in held[hand].cards.items():
            writer = slot[0]
            if writer in held and slot in held[writer].cards:
                lots.unite(places[(hand, card)], places[(writer, held[writer].cards[slot])])
    numbers = {head: number for number, head in enumerate(sorted(lots.members))}
    return {card: numbers[lots.head(place)] for card, place in places.items()}


def told_by_outer(entries):
    """Names and lines of all letters of outer hands that inner ones read, by writer, reader and number."""
    told = {}
    for hand in entries:
        for entry in entries[hand]:
            if entry[0] == "read" and entry[1] not in entries:
                told[(entry[1], hand, entry[2])] = entry[3:]
    return told


class Making:
    """A least history in the making: the views of its inner hands, all others being outer, and the world so far."""

    def __init__(self, hands, entries, held):
        self.entries = entries
        self.held = held
        self.done = {hand: 0 for hand in entries}
        self.told = told_by_outer(entries)
        self.things = things_of(held)
        self.world = World(hands)

    def wrong(self):
        """Do all entries: None, or the hand and the number of the first entry that can't be."""
        self.write_outer()
        hand = self.next_hand()
        while hand is not None:
            if not self.do_next(hand):
                return hand, self.done[hand]
            hand = self.next_hand()
        for waiting in self.entries:
            if self.done[waiting] < len(self.entries[waiting]):
                return waiting, self.done[waiting]
        return None

    def write_outer(self):
        """Outer hands write to one another what the names of their read letters tell of, without lines."""
        greatest = {}
        for key in self.told:
            for writer, number in self.told[key][0]:
                if writer not in self.entries:
                    greatest[(writer, key[0])] = max(number, greatest.get((writer, key[0]), 0))
        for writer, reader in sorted(greatest):
            for _ in range(greatest[(writer, reader)]):
                self.world.do(("write", writer, reader, ()))

    def next_hand(self):
        """The first inner hand of which the next entry can be done, None where nobody can go on."""
        for hand, entries in self.entries.items():
            if self.done[hand] < len(entries) and self.can(hand, entries[self.done[hand]]):
                return hand
        return None

    def can(self, hand, entry):
        """Whether an entry of the hand can be done, as far as the letters are there that it waits for."""
        if entry[0] != "read":
            return True
        letters = self.world.talks.letters
        if entry[1] in self.entries:
            return (entry[1], hand, entry[2]) in letters
        return all([(other, entry[1], number) in letters for other, number in entry[3]])

    def do_next(self, hand):
        """Do the next entry of a hand; whether the letter that it reads, if it reads one, is the one that it tells."""
        entry = self.entries[hand][self.done[hand]]
        if entry[0] == "read" and not self.comes_as_told(hand, entry):
            return False
        if entry[0] == "see":
            card = len(self.world.things[hand])
            self.world.do(("see", hand, self.things[(hand, card)], entry[1]))
        else:
            self.world.do((entry[0], hand, entry[1], entry[2]))
        self.done[hand] += 1
        return True

    def comes_as_told(self, hand, entry):
        """Whether the letter that an entry reads, written now where it isn't there yet, is the one that it tells."""
        key = (entry[1], hand, entry[2])
        letters = self.world.talks.letters
        if key not in letters:
            self.write_up_to(key)
        return letters[key][3:] == entry[3:]

    def write_up_to(self, key):
        """An outer hand writes a letter that is read now, and ahead of it those that must be there."""
        letters = self.world.talks.letters
        ahead = [other for other in self.told if other not in letters and self.goes_ahead(other, key)]
        for _, other in sorted([(len(self.told[other][0]), other) for other in ahead]):
            self.write_lost(other)
            self.write_told(other)

    def goes_ahead(self, other, key):
        """Whether a read letter is written ahead of another one of the same writer, or is that one."""
        if other[0] != key[0]:
            return False
        if other[1] == key[1] and other[2] <= key[2]:
            return True
        names = self.told[key][0]
        return len(self.told[other][0]) < len(names) and are_among(self.told[other][0], names)

    def write_lost(self, key):
        """The letters of lesser numbers that aren't there yet, which are never read, are written without lines."""
        writer, reader, number = key
        for _ in range(self.world.held[writer].written(reader) + 1, number):
            self.world.do(("write", writer, reader, ()))

    def write_told(self, key):
        """An outer hand writes a letter that is read, as far as it can come out as it is told.

        What its descriptions mean goes by its names as they are told: it may
        be made ahead of its reading, and come out otherwise. That shows when
        it is read; one that can't be written is told there as one without
        lines, so that those behind it have their numbers.
        """
        writer, reader, number = key
        names, lines = self.told[key]
        for name in names:
            if name not in self.world.held[writer].names:
                self.world.do(("read", writer, *name))
        talks = self.world.talks
        lots = talks.public_file(talks.ground(writer, reader, names))
        written = []
        for k, (name, words) in enumerate(lines):
            if name is None:
                card = self.see_new((*key, k), words)
            else:
                card = self.find_one(writer, [lots[at][0] for at in fitting(lots, name)], words)
            written.append((card, words))
        deed = ("write", writer, reader, tuple(written))
        self.world.do(deed if self.world.can(deed) else ("write", writer, reader, ()))

    def see_new(self, slot, words):
        """The writer sees the thing of a new line: its card."""
        writer, reader = slot[:2]
        card = len(self.world.things[writer])
        self.world.do(("see", writer, self.things[(reader, self.held[reader].cards[slot])], words))
        return card

    def find_one(self, writer, meant, words):
        """The writer finds all that it has for slots that are meant to be one: the least card."""
        held = self.world.held[writer]
        cards = sorted({held.cards[slot] for slots in meant for slot in slots})
        for other in cards:
            if held.lots.head(other) != held.lots.head(cards[0]):
                self.world.do(("one", writer, cards[0], other))
        unknown = held.lots.unknown(cards[0], words)
        if unknown:
            self.world.do(("look", writer, cards[0], unknown))
        return cards[0]


def made(hands, views, held):
    """The making of the views' least history: (None, its world), or (what is wrong, None)."""
    making = Making(hands, dict(views), held)
    wrong = making.wrong()
    return wrong, making.world if wrong is None else None


def least_world(hands, view):
    """The world of a view's least history, None where what has a view's form is none."""
    held = holding_of(view)
    return None if held is None else made(hands, (view,), {view[0]: held})[1]


def joint_world(hands, views):
    """Of views of unlike hands, rising, (None, the world of their least history), or (what is wrong, None).

    What is wrong is a hand, and the number of the first of its entries that
    can't be in one history with the others.
    """
    return made(hands, views, {view[0]: holding_of(view) for view in views})
