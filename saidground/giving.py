"""What a read letter gives away of its writer: slots that it didn't hold to be one when it wrote the letter."""

from itertools import combinations

from saidground.descriptions import fitting, name_in
from saidground.forms import is_rising, is_whole
from saidground.parts import is_slot
from saidground.worlds import World

FEWEST_SLOTS = 2
MOST_SLOTS = 12


class Giving:
    """Slots that are asked of a letter that a view's hand read, in the view's least world."""

    def __init__(self, world, hand, entry, slots):
        self.world = world
        self.talks = world.talks
        self.hand = hand
        self.writer, self.number = entry[1:3]
        self.slots = slots
        self.read = sorted([number for writer, number in world.held[hand].names if writer == self.writer])

    def names(self, number):
        """The names of the writer's letter of that number."""
        return self.talks.letters[(self.writer, self.hand, number)][3]

    def had(self, number):
        """The keys, rising, of the letters of the two that the writer had when it wrote that one, itself too.

        They are those that the hand can tell: its own, and those that it read, perhaps later.
        """
        mine = [(self.hand, self.writer, told) for name, told in self.names(number) if name == self.hand]
        return sorted(mine + [(self.writer, self.hand, earlier) for earlier in self.read if earlier <= number])

    def may_be_asked(self):
        """Whether the slots are two to twelve, rising, that the writer had."""
        if not isinstance(self.slots, tuple) or not FEWEST_SLOTS <= len(self.slots) <= MOST_SLOTS:
            return False
        there = {slot: True for slot in self.talks.slots(self.had(self.number))}
        hands = (self.hand, self.writer)
        return all([is_slot(slot, hands) and slot in there for slot in self.slots]) and is_rising(self.slots)

    def held_as(self, number):
        """As which lot, by its number, the writer held each slot at least when it wrote that letter.

        It held as one what fits a description, of its own or read, and the
        description's slot; and the slots that are asked.
        """
        lots = self.talks.public_file(self.had(number), [self.slots])
        return {slot: at for at, lot in enumerate(lots) for slot in lot[0]}

    def ground_file(self, number):
        """The public file of the ground of the writer's letter of that number."""
        return self.talks.public_file(self.talks.ground(self.writer, self.hand, self.names(number)))

    def shown_at(self, number):
        """A line of that letter, and what shows there that the slots weren't held as one; None of nothing.

        That is the number of a later line that would be one with it, else
        the lesser name that the line would have had.
        """
        held = self.held_as(number)
        key = (self.writer, self.hand, number)
        lines = [held[slot] for slot in self.talks.slots([key])]
        for k, later in combinations(range(len(lines)), 2):
            if lines[k] == lines[later]:
                return k, later
        lots = [(held[slots[0]], words) for slots, words in self.ground_file(number)]
        for k, lot in enumerate(lines):
            name = name_in(lots, lot)
            if name != self.talks.letters[key][4][k][0]:
                return k, name
        return None

    def showing(self):
        """The least number of a letter at which it shows, with what shows there; None of no letter."""
        for number in self.read:
            if number >= self.number:
                shown = self.shown_at(number)
                if shown is not None:
                    return number, *shown
        return None

    def showing_wrong(self, number, line, other):
        """None where that shows so, else the first that is wrong with it."""
        if number < self.number or number not in self.read:
            return ("letter",)
        key = (self.writer, self.hand, number)
        lines = self.talks.letters[key][4]
        if line >= len(lines) or (is_whole(other) and not line < other < len(lines)):
            return ("line",)
        held = self.held_as(number)
        lot = held[key + (line,)]
        if is_whole(other):
            return None if held[key + (other,)] == lot else ("lines",)
        name = lines[line][0]
        if name is not None and (len(other), other) >= (len(name), name):
            return ("less",)
        lots = self.ground_file(number)
        fits = fitting(lots, other)
        return None if fits and all([held[lots[at][0][0]] == lot for at in fits]) else ("fits",)

    def history_with(self):
        """The least history, where the writer finds the slots' cards to be one right ahead of the letter."""
        cards = [self.world.held[self.writer].cards[slot] for slot in self.slots]
        things = sorted({self.world.things[self.writer][card] for card in cards})
        world = World(self.world.hands)
        lots = world.held[self.writer].lots
        for deed in self.world.deeds:
            if deed[:3] == ("write", self.writer, self.hand) and self.is_next(world):
                for card in cards:
                    if lots.head(card) != lots.head(cards[0]):
                        world.do(("one", self.writer, cards[0], card))
            world.do(with_one_thing(deed, things))
        return world.history()

    def is_next(self, world):
        """Whether the letter is the next one that its writer writes to the hand."""
        return world.held[self.writer].written(self.hand) == self.number - 1

    def are_held(self, history):
        """Whether the writer, in a history in which the hand has the view, held the slots to be one at the letter."""
        world = World(history[0])
        for deed in history[1]:
            if (self.writer, self.hand, self.number) not in world.talks.letters:
                world.do(deed)
        held = world.held[self.writer]
        return len({held.lots.head(held.cards[slot]) for slot in self.slots}) == 1


def with_one_thing(deed, things):
    """The deed, where all of some things are the first of them."""
    if deed[0] == "see" and deed[2] in things:
        return ("see", deed[1], things[0], deed[3])
    return deed
