"""Sayings by form: the first part that is none."""

from saidground.errors import NoSaying
from saidground.forms import is_row, is_whole, is_word

DEEPEST = 8
MOST_PARTS = 40


def check_saying(saying, hands):
    """Refuse what is no saying of these hands."""
    wrong = wrong_part(saying, hands, ())
    if wrong is None and count_parts(saying) > MOST_PARTS:
        wrong = ()
    if wrong is not None:
        raise NoSaying(wrong)


def wrong_part(thing, hands, path):
    """The path to the first part, of what stands at that path, that is none; None where all are parts."""
    if len(path) >= DEEPEST or not is_part(thing, hands):
        return path
    for place in inner_places(thing):
        wrong = wrong_part(thing[place], hands, path + (place,))
        if wrong is not None:
            return wrong
    return None


def inner_places(part):
    """The places in a part of the parts in it."""
    if part[0] in ("both", "either"):
        return (1, 2)
    return (2,) if part[0] == "knows" else ()


def count_parts(part):
    """How many parts a part has, itself too."""
    return 1 + sum([count_parts(part[place]) for place in inner_places(part)])


def is_part(thing, hands):
    """Whether a thing is of a part's form, whatever the parts in it are."""
    if is_row(thing, 4):
        kind, writer, reader, number = thing
        return kind in ("wrote", "read") and writer in hands and reader in hands and is_whole(number, 1)
    if not is_row(thing, 3):
        return False
    kind, first, second = thing
    if kind == "one":
        return is_slot(first, hands) and is_slot(second, hands)
    if kind == "word":
        return is_slot(first, hands) and is_word(second)
    return kind in ("both", "either") or (kind == "knows" and first in hands)


def is_slot(thing, hands):
    """Whether a thing is of a slot's form."""
    if not is_row(thing, 4):
        return False
    writer, reader, number, k = thing
    return writer in hands and reader in hands and is_whole(number, 1) and is_whole(k)
