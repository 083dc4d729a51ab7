"""Clashes: what two trains can come to if two routes are locked and open at once."""

from clearline.errors import BadPair
from clearline.layout import layout_of
from clearline.routes import demand_route, needed_lies
from clearline.tracks import after_move, is_accident, moves_of

TRAINS = ("one", "other")


def have_one_place(layout, one, other):
    """Whether two routes have the same start, or the same stretch in front of them."""
    fronts = layout.in_front(one[0])
    return one[0] == other[0] or (fronts != [] and fronts == layout.in_front(other[0]))


def paired_layout(plan, one, other):
    """The layout of a plan; raises the errors of a wrong plan, wrong routes, and a pair of routes from one place."""
    layout = layout_of(plan)
    demand_route(layout, one)
    demand_route(layout, other)
    if have_one_place(layout, one, other):
        raise BadPair((one, other))
    return layout


def waiting_train(layout, name, route):
    """The list of the train that stands in front of a route's signal; at a gate it is outside."""
    if route[0] not in layout.signals:
        return []
    stretch, number = layout.signals[route[0]]
    # A signal stands on a plain stretch, whose ends are 0 and 1.
    return [(name, ((stretch, 1 - number, number),), False)]


def first_standing(layout, one, other):
    """The standing in which both routes are open and nobody has moved."""
    first, second = TRAINS
    trains = waiting_train(layout, first, one) + waiting_train(layout, second, other)
    sides = {name: side for name, side in needed_lies(layout, one) + needed_lies(layout, other)}
    lies = tuple([(name, sides.get(name, "left")) for name in layout.points])
    return (tuple(trains), lies, tuple(sorted([one[0], other[0]])))


def moves_of_both(layout, starts, standing):
    """The list of the moves that both trains can make; each comes in at the gate of its own route only."""
    found = [move for name in TRAINS for move in moves_of(layout, standing, name)]
    return [move for move in found if move[0] != "in" or (move[1], move[2]) in starts]


def starts_of(one, other):
    """The list of the pairs of each train and the start of its route."""
    return list(zip(TRAINS, (one[0], other[0])))


def shortest_clash(layout, starts, standing):
    """A clash from this standing on with the fewest moves, or None."""
    ways = {standing: ()}
    level = [standing]
    while level:
        following = []
        for here in level:
            for move in moves_of_both(layout, starts, here):
                after = after_move(layout, here, move)
                if is_accident(after):
                    return ways[here] + (move,)
                if after not in ways:
                    ways[after] = ways[here] + (move,)
                    following.append(after)
        level = following
    return None


def clash(plan, one, other):
    """A clash of two routes with the fewest moves, or None if there is none."""
    layout = paired_layout(plan, one, other)
    return shortest_clash(layout, starts_of(one, other), first_standing(layout, one, other))


def leads_to_accident(layout, starts, standing, moves):
    """Whether moves are possible one after the other, the last one and no other ending in an accident."""
    for place, move in enumerate(moves):
        if move not in moves_of_both(layout, starts, standing):
            return False
        standing = after_move(layout, standing, move)
        if is_accident(standing):
            return place == len(moves) - 1
    return False


def is_clash(plan, one, other, thing):
    """Whether any value is a clash of two routes."""
    layout = paired_layout(plan, one, other)
    if not isinstance(thing, tuple):
        return False
    return leads_to_accident(layout, starts_of(one, other), first_standing(layout, one, other), thing)
