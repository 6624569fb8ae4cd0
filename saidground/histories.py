"""Histories: whether anything is one, and their texts."""

from saidground.errors import NoText
from saidground.forms import are_hands, is_deed
from saidground.worlds import judged, world_of

FIGURES = "0123456789"
MOST_FIGURES = 9


def history_wrong(thing):
    """None where anything is a history, else the first that is wrong with it."""
    return judged(thing)[0]


def printed(history):
    """A history's text, a list of rows."""
    world_of(history)
    hands, deeds = history
    return [" ".join(["hands", *hands])] + [row_of(deed) for deed in deeds]


def row_of(deed):
    """A deed's row."""
    kind, hand, what, last = deed
    parts = [kind, hand, str(what)]
    if kind == "write":
        for card, words in last:
            parts.extend([":", str(card), *words])
    elif kind in ("see", "look"):
        parts.extend(last)
    else:
        parts.append(str(last))
    return " ".join(parts)


def read_history(text):
    """The history that a list of rows tells."""
    if not isinstance(text, list) or not all([isinstance(row, str) for row in text]):
        raise NoText(0)
    hands = None
    deeds = []
    for number, row in enumerate(text, start=1):
        parts = [part for part in row.split(" ") if part]
        if not parts:
            continue
        found = hands_of(parts) if hands is None else deed_of(parts, hands)
        if found is None:
            raise NoText(number)
        if hands is None:
            hands = found
        else:
            deeds.append(found)
    if hands is None:
        raise NoText(len(text) + 1)
    history = (hands, tuple(deeds))
    world_of(history)
    return history


def hands_of(parts):
    """The hands that a row's parts tell, None where they tell none."""
    hands = tuple(parts[1:])
    return hands if parts[0] == "hands" and are_hands(hands) else None


def deed_of(parts, hands):
    """The deed that a row's parts tell, None where they tell none."""
    if len(parts) < 3:
        return None
    kind, hand, what = parts[:3]
    if kind == "write":
        deed = (kind, hand, what, lines_of(parts[3:]))
    elif kind in ("see", "look"):
        deed = (kind, hand, number_of(what), tuple(parts[3:]))
    elif len(parts) != 4:
        return None
    elif kind == "one":
        deed = (kind, hand, number_of(what), number_of(parts[3]))
    else:
        deed = (kind, hand, what, number_of(parts[3]))
    return deed if is_deed(deed, hands) else None


def lines_of(parts):
    """The lines that the parts behind a write's hands tell, None where they tell none."""
    starts = [k for k, part in enumerate(parts) if part == ":"]
    if parts and parts[0] != ":":
        return None
    lines = []
    for start, end in zip(starts, starts[1:] + [len(parts)]):
        if end == start + 1:
            return None
        lines.append((number_of(parts[start + 1]), tuple(parts[start + 2:end])))
    return tuple(lines)


def number_of(part):
    """The number that a part tells by figures, None where it tells none."""
    if len(part) > MOST_FIGURES or not all([sign in FIGURES for sign in part]):
        return None
    if len(part) > 1 and part[0] == "0":
        return None
    return int(part)
