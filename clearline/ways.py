"""The ends of stretches, and the ways over them."""

# How many ends a stretch of each kind has.
ENDS = {"plain": 2, "points": 3, "crossing": 4}
# From which end to which one the ways of each kind lead.
PATHS = {
    "plain": ((0, 1), (1, 0)),
    "points": ((0, 1), (1, 0), (0, 2), (2, 0)),
    "crossing": ((0, 1), (1, 0), (2, 3), (3, 2)),
}


def ways_of(stretch):
    """The list of the ways of a stretch."""
    name, kind = stretch
    return [(name, start, goal) for start, goal in PATHS[kind]]


def wanted_side(way):
    """How a way of points wants them to lie."""
    return "right" if 2 in way[1:] else "left"
