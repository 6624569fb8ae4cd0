"""A history's deeds, done in order, and what all hands hold by them."""

from saidground.errors import NoHistory
from saidground.forms import are_hands, is_deed, is_row
from saidground.holdings import Holding
from saidground.talks import Talks


class World:
    """What each of the hands holds, and of which thing each card is."""

    def __init__(self, hands):
        self.talks = Talks()
        self.held = {hand: Holding(hand, self.talks) for hand in hands}
        self.things = {hand: [] for hand in hands}

    def can(self, deed):
        """Whether what is of a deed's form can be done now."""
        kind, hand, what, last = deed
        lots = self.held[hand].lots
        if kind == "see":
            return True
        if kind == "look":
            return lots.has(what)
        if kind == "one":
            things = self.things[hand]
            return lots.has(what) and lots.has(last) and things[what] == things[last]
        if kind == "write":
            return self.held[hand].may_write(last)
        return (what, hand, last) in self.talks.letters

    def do(self, deed):
        """Do a deed that can be done."""
        kind, hand, what, last = deed
        held = self.held[hand]
        if kind == "see":
            held.lots.new(last)
            self.things[hand].append(what)
        elif kind == "look":
            held.lots.learn(what, last)
        elif kind == "one":
            held.lots.unite(what, last)
        elif kind == "write":
            held.write(what, last)
        elif (what, last) not in held.names:
            self.read((what, hand, last))

    def read(self, key):
        """Its reader reads a letter for the first time; a new card is of the thing of the writer's."""
        writer, reader, number = key
        letter = self.talks.letters[key]
        self.held[reader].read(letter)
        for k, line in enumerate(letter[4]):
            if line[0] is None:
                card = self.held[writer].cards[(writer, reader, number, k)]
                self.things[reader].append(self.things[writer][card])


def form_wrong(thing):
    """None where anything has a history's form, else the first that isn't so."""
    if not is_row(thing, 2) or not isinstance(thing[0], tuple) or not isinstance(thing[1], tuple):
        return ("history",)
    if not are_hands(thing[0]):
        return ("hands",)
    for k, deed in enumerate(thing[1]):
        if not is_deed(deed, thing[0]):
            return ("deed", k)
    return None


def judged(thing):
    """Of anything (what is wrong with it, None), or of a history (None, its world at the end)."""
    wrong = form_wrong(thing)
    if wrong is not None:
        return wrong, None
    world = World(thing[0])
    for k, deed in enumerate(thing[1]):
        if not world.can(deed):
            return ("done", k), None
        world.do(deed)
    return None, world


def world_of(history):
    """A history's world at the end; refused where it is no history."""
    wrong, world = judged(history)
    if wrong is not None:
        raise NoHistory(wrong)
    return world
