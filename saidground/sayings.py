"""Sayings: whether they hold, and who knows them."""

from saidground.errors import NoHand
from saidground.least import least_world
from saidground.parts import check_saying
from saidground.standings import Standing, standing_by
from saidground.worlds import world_of

MOST_OTHERS = 8


def holds(history, saying):
    """Whether a saying holds in a history."""
    world = world_of(history)
    check_saying(saying, world.hands)
    return Standing(world).holds(saying)


def known(hands, view, saying):
    """Whether the view's hand knows a saying."""
    standing = standing_by(hands, view)
    check_saying(saying, hands)
    return standing.holds(saying)


def since(hands, view, saying):
    """The least count of first entries with which a saying is known, None where it isn't known."""
    if not known(hands, view, saying):
        return None
    hand, entries = view
    # Without entries nothing is known.
    unknown_by = 0
    known_by = len(entries)
    while known_by - unknown_by > 1:
        middle = (unknown_by + known_by) // 2
        world = least_world(hands, (hand, entries[:middle]))
        if Standing(world, hand).holds(saying):
            known_by = middle
        else:
            unknown_by = middle
    return known_by


def deepest(hands, view, saying, others):
    """How many of the others, from the first on, know so of one another that a saying holds; None of none."""
    standing = standing_by(hands, view)
    check_saying(saying, hands)
    if not are_others(others, hands):
        raise NoHand()
    if not standing.holds(saying):
        return None
    for deep, other in enumerate(others):
        standing = standing.least(other)
        if not standing.holds(saying):
            return deep
    return len(others)


def are_others(thing, hands):
    """Whether a thing is a tuple of at most eight of the hands."""
    return isinstance(thing, tuple) and len(thing) <= MOST_OTHERS and all([other in hands for other in thing])
