"""How a least history is led into the history from which it comes."""

from saidground.descriptions import covers
from saidground.forms import is_row, is_whole


def new_slots(world, other):
    """The slots of the new lines that a hand wrote or read."""
    letters = world.talks.letters
    return [slot for slot in world.held[other].cards if letters[slot[:3]][4][slot[3]][0] is None]


def lead_of(world, least, hand):
    """The leading of the least world of a hand's view into the world that it comes from."""
    images = {least.things[hand][card]: thing for card, thing in enumerate(world.things[hand])}
    cards = []
    for other in least.hands:
        if other != hand:
            here = least.held[other].cards
            there = world.held[other].cards
            # All cards of others come by new lines, of their own or read: each has the card that it has there.
            cards.extend([(other, here[slot], there[slot]) for slot in new_slots(least, other)])
    return tuple([images[thing] for thing in range(len(images))]), tuple(sorted(cards))


class Led:
    """A least world of a hand's view, led into the world that it comes from; what is wrong with that."""

    def __init__(self, world, least, hand, thing):
        self.world = world
        self.least = least
        self.hand = hand
        self.others = [other for other in least.hands if other != hand]
        self.things, self.cards = thing
        self.images = {(other, card): image for other, card, image in self.cards}

    def wrong(self):
        """None where nothing is wrong, else the first that is.

        That letters written, and read, here are so there is not asked: the
        view tells of them all, however things and cards are led.
        """
        return (self.wrong_thing() or self.wrong_own() or self.wrong_card() or self.wrong_one()
                or self.wrong_slot())

    def wrong_thing(self):
        """The first thing of which a word is true that isn't true of its image."""
        for k, image in enumerate(self.things):
            if not covers(self.world.true[image], self.least.true[k]):
                return ("thing", k)
        return None

    def wrong_own(self):
        """The hand's first card that is of another thing there than the image of its thing."""
        for k, thing in enumerate(self.least.things[self.hand]):
            if self.world.things[self.hand][k] != self.things[thing]:
                return ("own", k)
        return None

    def wrong_card(self):
        """The first card led to one of another thing, or one of which less is known."""
        for other, k, image in self.cards:
            if self.world.things[other][image] != self.things[self.least.things[other][k]]:
                return ("card", other, k)
            known = self.least.held[other].lots.known(k)
            if self.world.held[other].lots.unknown(image, known):
                return ("card", other, k)
        return None

    def wrong_one(self):
        """The first two cards that are one here, but led to two that aren't one there."""
        for other, k, image in self.cards:
            there = self.world.held[other].lots
            for j in self.least.held[other].lots.lot(k):
                if there.head(self.images[(other, j)]) != there.head(image):
                    return ("one", other, k, j)
        return None

    def wrong_slot(self):
        """The first slot for which another hand's card is led to one that isn't one with its card for it there."""
        for other in self.others:
            here = self.least.held[other].cards
            held = self.world.held[other]
            for slot in sorted(here):
                image = self.images[(other, here[slot])]
                if held.lots.head(image) != held.lots.head(held.cards[slot]):
                    return ("slot", other, slot)
        return None


def is_led(world, least, hand, thing):
    """Whether anything is of a leading's form, with just one image, that is there, for each thing and card."""
    if not is_row(thing, 2) or not isinstance(thing[0], tuple) or not isinstance(thing[1], tuple):
        return False
    things, cards = thing
    if len(things) != len(least.true) or not all([is_whole(image) and image in world.true for image in things]):
        return False
    wanted = [(other, card) for other in least.hands if other != hand for card in range(len(least.things[other]))]
    if not all([is_row(row, 3) and is_whole(row[1]) and is_whole(row[2]) for row in cards]):
        return False
    if [row[:2] for row in cards] != wanted:
        return False
    return all([image < len(world.things[other]) for other, card, image in cards])
