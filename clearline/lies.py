"""Lies: how the points of a plan lie at a moment."""

from clearline.errors import BadLies
from clearline.forms import are_items, is_one_of, is_tuple_of

SIDES = ("left", "right")
POSITIONS = ("left", "right", "between")


def is_lie(thing):
    """Whether thing is a pair of anything and a position."""
    return is_tuple_of(thing, 2) and is_one_of(thing[1], POSITIONS)


def are_lies(layout, thing):
    """Whether any value is lies: the pairs (points, position) of all points in their order."""
    return are_items(thing, is_lie) and [pair[0] for pair in thing] == layout.points


def demand_lies(layout, thing):
    """Raises the error of a value that is no lies of the plan."""
    if not are_lies(layout, thing):
        raise BadLies(thing)
