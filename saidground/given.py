"""What a read letter gives away of its writer, and papers that show it."""

from saidground.errors import NoEntry, NoSlots
from saidground.forms import is_row, is_whole, is_words
from saidground.giving import Giving
from saidground.papers import judged_beside
from saidground.standings import world_by


def giving_by(hands, view, entry, slots):
    """What is asked of the letter that an entry reads; refused where it reads none, or its writer hadn't the slots."""
    world = world_by(hands, view)
    entries = view[1]
    if not is_whole(entry) or entry >= len(entries) or entries[entry][0] != "read":
        raise NoEntry()
    giving = Giving(world, view[0], entries[entry], slots)
    if not giving.may_be_asked():
        raise NoSlots()
    return giving


def unheld(hands, view, entry, slots):
    """Whether slots are given away as unheld by the letter that an entry reads."""
    return giving_by(hands, view, entry, slots).showing() is not None


def unheld_paper(hands, view, entry, slots):
    """The paper that shows whether it is so."""
    giving = giving_by(hands, view, entry, slots)
    showing = giving.showing()
    return ("no", giving.history_with()) if showing is None else ("yes", *showing)


def unheld_wrong(hands, view, entry, slots, thing):
    """None where anything shows whether it is so, else the first that is wrong with it."""
    giving = giving_by(hands, view, entry, slots)
    if is_row(thing, 2) and thing[0] == "no":
        wrong = judged_beside(hands, view, thing[1])[0]
        if wrong is not None:
            return wrong
        return None if giving.are_held(thing[1]) else ("held",)
    if not is_yes(thing):
        return ("form",)
    number, line, other = thing[1:]
    return giving.showing_wrong(number, line, other)


def is_yes(thing):
    """Whether a thing is of the form of a paper that shows that it is so."""
    if not is_row(thing, 4) or thing[0] != "yes" or not is_whole(thing[1]) or not is_whole(thing[2]):
        return False
    return is_whole(thing[3]) or is_words(thing[3])
