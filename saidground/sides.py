"""Views side by side: whether they are of one history, and what their hands know together."""

from saidground.errors import NoHands, NoViews
from saidground.forms import are_hands, is_rising
from saidground.least import joint_world
from saidground.parts import check_saying
from saidground.standings import Standing, judged_view


def judged_views(hands, thing):
    """Of anything (what is wrong with it as views of one history, None), or (None, their least world)."""
    if not are_hands(hands):
        raise NoHands()
    if not isinstance(thing, tuple) or not thing:
        return ("views",), None
    for k, view in enumerate(thing):
        if judged_view(hands, view)[0] is not None:
            return ("view", k), None
    if not is_rising([view[0] for view in thing]):
        return ("views",), None
    wrong, world = joint_world(hands, thing)
    if wrong is not None:
        return ("entry", *wrong), None
    return None, world


def world_beside(hands, views):
    """The world of the least history of views; refused where these are none of one history."""
    wrong, world = judged_views(hands, views)
    if wrong is not None:
        raise NoViews(wrong)
    return world


def together(hands, views):
    """The least history of several views."""
    return world_beside(hands, views).history()


def together_wrong(hands, thing):
    """None where anything is views of one history with these hands, else the first that is wrong with it."""
    return judged_views(hands, thing)[0]


def known_together(hands, views, saying):
    """Whether the views' hands know a saying together."""
    world = world_beside(hands, views)
    check_saying(saying, hands)
    return Standing(world).holds(saying)
