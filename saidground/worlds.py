"""A history's deeds, done in order, and what all hands hold by them."""

from saidground.errors import NoHistory
from saidground.forms import are_hands, is_deed, is_row
from saidground.holdings import Holding
from saidground.talks import Talks


class World:
    """What each of the hands holds, of which thing each card is, and each thing's true words."""

    def __init__(self, hands):
        self.hands = hands
        self.deeds = []
        self.talks = Talks()
        self.held = {hand: Holding(hand, self.talks) for hand in hands}
        self.things = {hand: [] for hand in hands}
        self.true = {}

    def copy(self):
        """The same, to go on by itself."""
        twin = World(self.hands)
        twin.deeds = list(self.deeds)
        twin.talks = self.talks.copy()
        twin.held = {hand: self.held[hand].among(twin.talks) for hand in self.hands}
        twin.things = {hand: list(self.things[hand]) for hand in self.hands}
        twin.true = {thing: dict(self.true[thing]) for thing in self.true}
        return twin

    def history(self):
        """The history of the deeds done."""
        return self.hands, tuple(self.deeds)

    def view(self, hand):
        """What a hand has of that history."""
        return hand, tuple([self.entry(deed) for deed in self.deeds if deed[1] == hand])

    def entry(self, deed):
        """What the doer of a deed has of it."""
        kind, hand, what, last = deed
        if kind == "see":
            return (kind, last)
        if kind == "read":
            told = self.talks.letters[(what, hand, last)]
            return (kind, what, last, told[3], told[4])
        return (kind, what, last)

    def thing(self, slot):
        """The thing of the card that the writer of a line meant, None where there is no such line."""
        card = self.held[slot[0]].cards.get(slot)
        return None if card is None else self.things[slot[0]][card]

    def unread(self):
        """The keys of the letters that their readers haven't read, as they were written."""
        return [key for key in self.talks.letters if (key[0], key[2]) not in self.held[key[1]].names]

    def can(self, deed):
        """Whether what is of a deed's form can be done now."""
        kind, hand, what, last = deed
        lots = self.held[hand].lots
        if kind == "see":
            return True
        if kind == "look":
            return lots.has(what)
        if kind == "one":
            things = self.things[hand]
            return lots.has(what) and lots.has(last) and things[what] == things[last]
        if kind == "write":
            return lots.has_all(last) and lots.may_stand(last)
        return (what, hand, last) in self.talks.letters

    def do(self, deed):
        """Do a deed that can be done."""
        kind, hand, what, last = deed
        held = self.held[hand]
        self.deeds.append(deed)
        if kind == "see":
            held.lots.new(last)
            self.things[hand].append(what)
            self.show(what, last)
        elif kind == "look":
            held.lots.learn(what, last)
            self.show(self.things[hand][what], last)
        elif kind == "one":
            held.lots.unite(what, last)
        elif kind == "write":
            held.write(what, last)
        elif (what, last) not in held.names:
            self.read((what, hand, last))

    def show(self, thing, words):
        """The words are true of the thing."""
        true = self.true.setdefault(thing, {})
        for word in words:
            true[word] = True

    def read(self, key):
        """Its reader reads a letter for the first time; a new card is of the thing of the writer's."""
        writer, reader, number = key
        letter = self.talks.letters[key]
        self.held[reader].read(letter)
        for k, line in enumerate(letter[4]):
            if line[0] is None:
                card = self.held[writer].cards[(writer, reader, number, k)]
                self.things[reader].append(self.things[writer][card])


def form_wrong(thing):
    """None where anything has a history's form, else the first that isn't so."""
    if not is_row(thing, 2) or not isinstance(thing[0], tuple) or not isinstance(thing[1], tuple):
        return ("history",)
    if not are_hands(thing[0]):
        return ("hands",)
    for k, deed in enumerate(thing[1]):
        if not is_deed(deed, thing[0]):
            return ("deed", k)
    return None


def judged(thing):
    """Of anything (what is wrong with it, None), or of a history (None, its world at the end)."""
    wrong = form_wrong(thing)
    if wrong is not None:
        return wrong, None
    world = World(thing[0])
    for k, deed in enumerate(thing[1]):
        if not world.can(deed):
            return ("done", k), None
        world.do(deed)
    return None, world


def world_of(history):
    """A history's world at the end; refused where it is no history."""
    wrong, world = judged(history)
    if wrong is not None:
        raise NoHistory(wrong)
    return world
