"""Papers: what shows that a saying is known, or that it isn't."""

from saidground.forms import is_row, is_whole
from saidground.parts import check_saying
from saidground.standings import Standing, standing_by
from saidground.worlds import judged


def paper_of(hands, view, saying):
    """The paper that shows whether a saying is known."""
    standing = standing_by(hands, view)
    check_saying(saying, hands)
    if standing.holds(saying):
        return ("yes", showing(standing, saying))
    return ("no", standing.world.history())


def showing(standing, saying):
    """The showing of a saying that holds in a view's least history."""
    kind = saying[0]
    if kind == "knows":
        return showing(standing.least(saying[1]), saying[2])
    if kind == "both":
        return (showing(standing, saying[1]), showing(standing, saying[2]))
    if kind == "either":
        side = 0 if standing.holds(saying[1]) else 1
        return (side, showing(standing, saying[side + 1]))
    if kind in ("wrote", "read"):
        return ("entry", telling(standing.view(), saying)[0])
    reasons = standing.reasons()
    place = reasons.places[saying[1]]
    if kind == "one":
        return ("joins", reasons.needed(place, reasons.places[saying[2]]))
    spot = reasons.first_spot(place, saying[2])
    return ("joins", reasons.needed(place, reasons.spots[spot][0]), spot)


def telling(view, saying):
    """The numbers, rising, of the entries that show that a letter is written, or that it is read."""
    hand, entries = view
    kind, writer, reader, number = saying
    sent = 0
    found = []
    for k, entry in enumerate(entries):
        if entry[0] == "write" and hand == writer and entry[1] == reader:
            sent += 1
            if kind == "wrote" and sent >= number:
                found.append(k)
        elif entry[0] == "read" and is_told(hand, entry, saying):
            found.append(k)
    return found


def is_told(hand, entry, saying):
    """Whether a letter that the hand reads, or its names, show that a letter is written, or that it is read."""
    kind, writer, reader, number = saying
    other, read, names, lines = entry[1:]
    if other == reader:
        numbers = [told for name, told in names if name == writer]
    else:
        numbers = [read] if other == writer and hand == reader else []
    if kind == "read":
        return number in numbers
    return any([told >= number for told in numbers])


def paper_wrong(hands, view, saying, thing):
    """None where anything shows whether a saying is known, else the first that is wrong with it."""
    standing = standing_by(hands, view)
    check_saying(saying, hands)
    if not is_row(thing, 2) or thing[0] not in ("no", "yes"):
        return ("form",)
    if thing[0] == "no":
        return no_wrong(hands, view, saying, thing[1])
    return showing_wrong(standing, saying, thing[1], ())


def judged_beside(hands, view, thing):
    """Of anything (None, its world) where it is a history of these hands with this view, else (what is wrong, None)."""
    wrong, world = judged(thing)
    if wrong is not None or world.hands != hands:
        return ("history",), None
    if world.view(view[0]) != view:
        return ("view",), None
    return None, world


def no_wrong(hands, view, saying, thing):
    """None where anything is a history that shows that a saying isn't known, else the first that is wrong with it."""
    wrong, world = judged_beside(hands, view, thing)
    if wrong is not None:
        return wrong
    return ("holds",) if Standing(world).holds(saying) else None


def showing_wrong(standing, saying, thing, path):
    """None where anything is a showing of the part at a path, else the first that is wrong with it."""
    kind = saying[0]
    if kind == "knows":
        return showing_wrong(standing.least(saying[1]), saying[2], thing, path + (2,))
    if not has_form(kind, thing):
        return ("part", path)
    if kind == "both":
        wrong = showing_wrong(standing, saying[1], thing[0], path + (1,))
        return showing_wrong(standing, saying[2], thing[1], path + (2,)) if wrong is None else wrong
    if kind == "either":
        place = thing[0] + 1
        return showing_wrong(standing, saying[place], thing[1], path + (place,))
    if kind in ("wrote", "read"):
        return None if thing[1] in telling(standing.view(), saying) else ("entry", path)
    word = joins_wrong(standing.reasons(), saying, thing)
    return None if word is None else (word, path)


def has_form(kind, thing):
    """Whether a thing has the form of a showing of a part of that kind, whatever the showings in it are."""
    if kind == "both":
        return is_row(thing, 2)
    if kind == "either":
        return is_row(thing, 2) and is_whole(thing[0]) and thing[0] <= 1
    if kind in ("wrote", "read"):
        return is_row(thing, 2) and thing[0] == "entry" and is_whole(thing[1])
    return is_row(thing, 2 if kind == "one" else 3) and thing[0] == "joins" and isinstance(thing[1], tuple)


def joins_wrong(reasons, saying, thing):
    """None where reasons, and of a word a spot, show that it is so, else the word for the first that is wrong."""
    kind, slot, last = saying
    if not reasons.are_reasons(thing[1]):
        return "reasons"
    if kind == "word" and not reasons.tells(thing[2], last):
        return "spot"
    if slot not in reasons.places or (kind == "one" and last not in reasons.places):
        return "joins"
    other = reasons.places[last] if kind == "one" else reasons.spots[thing[2]][0]
    lots = reasons.joined(thing[1])
    return None if lots.head(reasons.places[slot]) == lots.head(other) else "joins"
