"""Files and letters of a history, grounds and descriptions."""

from saidground.descriptions import fitting
from saidground.errors import NoCard, NoHand, NoLetter, NoLetters
from saidground.forms import is_whole
from saidground.least import least_world
from saidground.publics import public_of
from saidground.worlds import world_of


def check_hands(history, hand, other):
    """Refuse what are no two hands of a history."""
    if hand not in history[0] or other not in history[0] or hand == other:
        raise NoHand()


def held_by(history, hand):
    """What a hand of a history holds at its end."""
    world = world_of(history)
    if hand not in history[0]:
        raise NoHand()
    return world.held[hand]


def held_beside(history, hand, other):
    """What a hand of a history holds at its end, where another one is told, too."""
    world = world_of(history)
    check_hands(history, hand, other)
    return world.held[hand]


def world_with_card(history, hand, other, card):
    """A history's world at its end, where a hand, another one and a card of the hand are told, too."""
    world = world_of(history)
    check_hands(history, hand, other)
    if not is_whole(card) or not world.held[hand].lots.has(card):
        raise NoCard()
    return world


def file_of(history, hand):
    """The lots of a hand's file at the end: tuples (cards, words), by first cards."""
    return held_by(history, hand).lots.listed()


def cards_of(history, hand):
    """All slots of letters that the hand wrote or read, with the least card of the lot of each."""
    return held_by(history, hand).slots()


def letters(history):
    """All letters of a history, as they were written."""
    return list(world_of(history).talks.letters.values())


def letter(history, writer, reader, number):
    """One letter of a history."""
    talks = world_of(history).talks
    check_hands(history, writer, reader)
    if not is_whole(number) or (writer, reader, number) not in talks.letters:
        raise NoLetter(("unwritten",))
    return talks.letters[(writer, reader, number)]


def unread(history):
    """The letters that their readers haven't read, as they were written."""
    return world_of(history).unread()


def ground(history, hand, other):
    """The ground of a letter that the hand would write now: numbers of its letters, and of the other's."""
    keys = held_beside(history, hand, other).ground(other)
    mine = tuple([key[2] for key in keys if key[0] == hand])
    yours = tuple([key[2] for key in keys if key[0] == other])
    return mine, yours


def ground_file(history, hand, other):
    """The public file of the ground of a letter that the hand would write now."""
    return held_beside(history, hand, other).ground_file(other)


def fits(lots, words):
    """The numbers, rising, of the lots that fit the words."""
    return fitting(lots, words)


def name_for(history, hand, other, card):
    """The name that a line of the card would have now."""
    held = world_with_card(history, hand, other, card).held[hand]
    return held.name(held.ground_file(other), card)


def unsafe_in(held, lots, card, words):
    """None where words are safe for a card in these lots, else why they aren't."""
    found = fitting(lots, words)
    if not found:
        return ("nothing",)
    heads = [lot[0] for lot in held.held_as(lots)]
    for number in found:
        if heads[number] != held.lots.head(card):
            return ("other", number)
    return None


def unsafe(history, hand, other, card, words):
    """None where words are safe for a card now, else why they aren't."""
    held = world_with_card(history, hand, other, card).held[hand]
    return unsafe_in(held, held.ground_file(other), card, words)


def misread(history, hand, other, card, words):
    """None where words are safe for a card now, else the least history, in which they would be misread."""
    world = world_with_card(history, hand, other, card)
    lots = world.held[hand].ground_file(other)
    wrong = unsafe_in(world.held[hand], lots, card, words)
    if wrong is None:
        return None
    least = least_world(world.hands, world.view(hand)).history()
    if wrong[0] == "nothing":
        return ("nothing", least)
    return ("one", least, lots[wrong[1]][0][0])


def public(some):
    """The public file of a list of letters of two hands, each one's ground among them."""
    if not isinstance(some, list):
        raise NoLetters(None)
    at, lots = public_of(some)
    if at is not None:
        raise NoLetters(at)
    return lots
