"""The reasons by which a hand holds things to be one, and the spots that tell it words."""

from saidground.descriptions import fitting
from saidground.forms import is_rising, is_row, is_whole
from saidground.lots import Lots


def is_spot(thing):
    """Whether a thing has a spot's form, or a reason's: an entry's number, perhaps with a line's."""
    return is_whole(thing) or (is_row(thing, 2) and is_whole(thing[0]) and is_whole(thing[1]))


class Reasons:
    """What each reason of a hand's view joins, and what each spot tells, all by entries, then by lines.

    The places that are joined are the hand's cards, by their numbers, and
    behind them one for each description that it read: that is one with what
    it means by its reason alone.
    """

    def __init__(self, world, hand):
        self.hand = hand
        self.talks = world.talks
        self.count = len(world.things[hand])
        self.cards = 0
        self.sent = {}
        self.places = {}
        self.joins = {}
        self.spots = {}
        for k, entry in enumerate(world.view(hand)[1]):
            self.take(k, entry)

    def take(self, k, entry):
        """Take in what an entry tells."""
        kind = entry[0]
        if kind == "see":
            self.spots[k] = (self.cards, entry[1])
            self.cards += 1
        elif kind == "look":
            self.spots[k] = entry[1:]
        elif kind == "one":
            self.joins[k] = entry[1:]
        elif kind == "write":
            self.take_written(entry)
        else:
            self.take_read(k, entry)

    def take_written(self, entry):
        """The slots of a letter that the hand writes are the cards that it means."""
        kind, other, lines = entry
        self.sent[other] = self.sent.get(other, 0) + 1
        for i, line in enumerate(lines):
            self.places[(self.hand, other, self.sent[other], i)] = line[0]

    def take_read(self, k, entry):
        """Each line of a letter that the hand reads is a spot, and each description a reason."""
        kind, other, number, names, lines = entry
        lots = self.talks.public_file(self.talks.ground(other, self.hand, names))
        for i, (name, words) in enumerate(lines):
            slot = (other, self.hand, number, i)
            if slot not in self.places:
                self.places[slot] = self.new_place(name)
            self.spots[(k, i)] = (self.places[slot], words)
            if name is not None:
                meant = [self.places[fit] for at in fitting(lots, name) for fit in lots[at][0]]
                self.joins[(k, i)] = tuple(sorted(set(meant + [self.places[slot]])))

    def new_place(self, name):
        """The place of a line that is read for the first time."""
        if name is None:
            self.cards += 1
            return self.cards - 1
        self.count += 1
        return self.count - 1

    def unite(self, lots, reason):
        """Join what a reason joins."""
        join = self.joins[reason]
        for place in join[1:]:
            lots.unite(join[0], place)

    def joined(self, reasons):
        """All places, joined by these reasons alone."""
        lots = Lots()
        for _ in range(self.count):
            lots.new(())
        for reason in reasons:
            self.unite(lots, reason)
        return lots

    def needed(self, place, other):
        """The reasons that stay where, from the last on, each is left out without which the two are one yet."""
        kept = []
        lots = self.joined(kept)
        while lots.head(place) != lots.head(other):
            # Without what is behind the first that does, beside those that stay, the two are one yet.
            kept.insert(0, self.first_joining(lots, place, other))
            lots = self.joined(kept)
        return tuple(kept)

    def first_joining(self, lots, place, other):
        """The first reason with which all up to it make two places one in lots that aren't so yet."""
        for reason in self.joins:
            self.unite(lots, reason)
            if lots.head(place) == lots.head(other):
                return reason
        return None

    def first_spot(self, place, word):
        """The first spot that tells the word of what is one with the place by all reasons."""
        lots = self.joined(self.joins)
        for spot, (told, words) in self.spots.items():
            if word in words and lots.head(told) == lots.head(place):
                return spot
        return None

    def are_reasons(self, thing):
        """Whether a tuple is one of reasons, rising."""
        order = {reason: at for at, reason in enumerate(self.joins)}
        if not all([is_spot(reason) and reason in order for reason in thing]):
            return False
        return is_rising([order[reason] for reason in thing])

    def tells(self, spot, word):
        """Whether a thing is a spot that tells the word."""
        return is_spot(spot) and spot in self.spots and word in self.spots[spot][1]
