"""Views: what a hand has of a history, and the least history in which it has it."""

from saidground.errors import NoHand, NoHands
from saidground.forms import are_hands
from saidground.leads import Led, is_led, lead_of
from saidground.least import least_world
from saidground.standings import judged_view, world_by
from saidground.worlds import world_of


def world_with_hand(history, hand):
    """A history's world at its end, where a hand of it is told, too."""
    world = world_of(history)
    if hand not in world.hands:
        raise NoHand()
    return world


def view_of(history, hand):
    """What a hand has of a history."""
    return world_with_hand(history, hand).view(hand)


def least_history(hands, view):
    """The least history of a view."""
    return world_by(hands, view).history()


def view_wrong(hands, thing):
    """None where anything is some history's view with these hands, else the first that is wrong with it."""
    if not are_hands(hands):
        raise NoHands()
    return judged_view(hands, thing)[0]


def parted(hands, one, other):
    """The number of the first entry that two views of one hand don't share, None where they are the same."""
    world_by(hands, one)
    world_by(hands, other)
    if one[0] != other[0]:
        raise NoHand()
    for k, (first, second) in enumerate(zip(one[1], other[1])):
        if first != second:
            return k
    shorter = min(len(one[1]), len(other[1]))
    return None if one == other else shorter


def leading(history, hand):
    """How the least history of a hand's view is led into the history."""
    world = world_with_hand(history, hand)
    return lead_of(world, least_world(world.hands, world.view(hand)), hand)


def leading_wrong(history, hand, thing):
    """None where anything leads that least history into the history, else the first that is wrong with it."""
    world = world_with_hand(history, hand)
    least = least_world(world.hands, world.view(hand))
    if not is_led(world, least, hand, thing):
        return ("form",)
    return Led(world, least, hand, thing).wrong()
