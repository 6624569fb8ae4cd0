"""What holds in a world, and in the least worlds of what its hands have of it."""

from saidground.errors import NoHands, NoView
from saidground.forms import are_hands, is_view
from saidground.least import least_world
from saidground.reasons import Reasons


class Standing:
    """A world at its end; the least worlds of its hands' views are made once, when they are asked for."""

    def __init__(self, world, hand=None):
        self.world = world
        self.hand = hand
        self.inner = {}
        self.shown = None

    def least(self, hand):
        """The standing of the least history of a hand's view."""
        # The least history of that hand's view there is that history itself.
        if hand == self.hand:
            return self
        if hand not in self.inner:
            self.inner[hand] = Standing(least_world(self.world.hands, self.world.view(hand)), hand)
        return self.inner[hand]

    def view(self):
        """The view of which this is the least world."""
        return self.world.view(self.hand)

    def reasons(self):
        """The reasons of that view."""
        if self.shown is None:
            self.shown = Reasons(self.world, self.hand)
        return self.shown

    def holds(self, saying):
        """Whether a saying holds."""
        kind = saying[0]
        if kind == "both":
            return self.holds(saying[1]) and self.holds(saying[2])
        if kind == "either":
            return self.holds(saying[1]) or self.holds(saying[2])
        if kind == "knows":
            return self.least(saying[1]).holds(saying[2])
        if kind == "wrote":
            return saying[1:] in self.world.talks.letters
        if kind == "read":
            return (saying[1], saying[3]) in self.world.held[saying[2]].names
        thing = self.world.thing(saying[1])
        if thing is None:
            return False
        if kind == "one":
            return self.world.thing(saying[2]) == thing
        return saying[2] in self.world.true[thing]


def judged_view(hands, thing):
    """Of anything (what is wrong with it as a view, None), or of a view (None, its least world)."""
    if not is_view(thing, hands):
        return ("view",), None
    world = least_world(hands, thing)
    if world is None:
        return ("entry", first_wrong(hands, thing)), None
    return None, world


def first_wrong(hands, thing):
    """The number of the first entry with which what is no view, but of a view's form, is none."""
    hand, entries = thing
    good = 0
    bad = len(entries)
    while bad - good > 1:
        middle = (good + bad) // 2
        if least_world(hands, (hand, entries[:middle])) is None:
            bad = middle
        else:
            good = middle
    return bad - 1


def world_by(hands, view):
    """The least world of a view with these hands; refused where they are none, or it is none."""
    if not are_hands(hands):
        raise NoHands()
    wrong, world = judged_view(hands, view)
    if wrong is not None:
        raise NoView(wrong)
    return world


def standing_by(hands, view):
    """The standing of a view's least history; refused as the world is."""
    return Standing(world_by(hands, view), view[0])
