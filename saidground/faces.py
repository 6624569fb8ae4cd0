"""Faces: as what the things that a hand holds to be one stand in what was said between it and another."""

from saidground.descriptions import covers
from saidground.errors import NoCard, NoHand
from saidground.forms import is_whole
from saidground.standings import world_by


class Facing:
    """What a view's hand holds, and the lots of the ground of its next letter to another one."""

    def __init__(self, held, other):
        self.held = held
        self.lots = held.ground_file(other)
        self.heads = [head for head, words in held.held_as(self.lots)]

    def faces_of(self, head):
        """The numbers, rising, of the lots that are faces of the hand's lot, given by its least card."""
        return tuple([number for number, other in enumerate(self.heads) if other == head])

    def cover_of(self, face, head):
        """The first lot that is no face of the hand's lot, and of which all words of its face were said."""
        words = self.lots[face][1]
        for number, lot in enumerate(self.lots):
            if self.heads[number] != head and covers(lot[1], words):
                return number
        return None


def facing_by(hands, view, other):
    """What stands between a view's hand and another one; refused where there is no such view, or hand."""
    world = world_by(hands, view)
    if other not in hands or other == view[0]:
        raise NoHand()
    return Facing(world.held[view[0]], other)


def facing_with_card(hands, view, other, card):
    """The same, where a card of the view's hand is told, too."""
    facing = facing_by(hands, view, other)
    if not is_whole(card) or not facing.held.lots.has(card):
        raise NoCard()
    return facing


def faces(hands, view, other):
    """The least card of each lot that has a slot in the ground of the next letter, with its faces' numbers."""
    facing = facing_by(hands, view, other)
    return [(head, facing.faces_of(head)) for head in sorted(set(facing.heads))]


def called(hands, view, other, card):
    """The name that a line of the card would have now."""
    facing = facing_with_card(hands, view, other, card)
    return facing.held.name(facing.lots, card)


def hidden(hands, view, other, card):
    """None where the card has a description, else each face of it with the first lot by which it is covered."""
    facing = facing_with_card(hands, view, other, card)
    if facing.held.name(facing.lots, card) is not None:
        return None
    head = facing.held.lots.head(card)
    return [(face, facing.cover_of(face, head)) for face in facing.faces_of(head)]
