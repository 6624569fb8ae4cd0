"""The public file of letters that anybody hands in, and the first letter that has no place there."""

from saidground.forms import is_letter
from saidground.talks import Talks


def public_of(some):
    """Of a list (the first place of what is no letter there, None), or (None, its public file)."""
    at = form_place(some)
    if at is not None:
        return at, None
    talks = Talks()
    for letter in some:
        talks.hold(letter)
    places = {letter[:3]: place for place, letter in enumerate(some)}
    at, grounds = grounds_of(talks, places)
    if at is None:
        at = loose_place(grounds)
    if at is None:
        at = unfit_place(talks, some, grounds)
    if at is not None:
        return at, None
    return None, talks.public_file(sorted(places))


def form_place(some):
    """The first place of what is no letter, of a third hand, or told of ahead; None of nothing such."""
    keys = set()
    for place, letter in enumerate(some):
        if not is_letter(letter) or letter[:3] in keys:
            return place
        if sorted(letter[:2]) != sorted(some[0][:2]):
            return place
        keys.add(letter[:3])
    return None


def grounds_of(talks, places):
    """(None, the grounds by places, as rising lists of places), or (the first place without one, None)."""
    grounds = []
    for key, place in places.items():
        writer, reader, number, names, lines = talks.letters[key]
        if not all([(reader, writer, name[1]) in places for name in names if name[0] == reader]):
            return place, None
        keys = talks.ground(writer, reader, names)
        if key in keys or not all([other in places for other in keys]):
            return place, None
        grounds.append(sorted([places[other] for other in keys]))
    return None, grounds


def loose_place(grounds):
    """The first place in whose ground is one whose own ground isn't all in it; None where there is none."""
    masks = [sum([1 << other for other in ground]) for ground in grounds]
    for place, ground in enumerate(grounds):
        if not all([masks[other] & masks[place] == masks[other] for other in ground]):
            return place
    return None


def unfit_place(talks, some, grounds):
    """Find all meanings; the first place of a letter of whose descriptions nothing fits, None of none."""
    unfit = []
    # A ground has more letters than each of those in it has: so they come first.
    for _, place in sorted([(len(ground), place) for place, ground in enumerate(grounds)]):
        letter = some[place]
        keys = sorted([some[other][:3] for other in grounds[place]])
        talks.find_meanings(letter, talks.public_file(keys))
        if not all(talks.meanings(letter)):
            unfit.append(place)
    return min(unfit, default=None)
