"""Routes: which ones a plan has, and what each of them needs."""

from clearline.errors import BadRoute
from clearline.forms import are_items, is_name, is_tuple_of
from clearline.layout import layout_of
from clearline.plans import is_step
from clearline.ways import wanted_side


def has_route_form(thing):
    """Whether thing has the form of a route; no plan is asked whether it is one of its routes."""
    return is_tuple_of(thing, 3) and is_name(thing[0]) and are_items(thing[1], is_step) and is_name(thing[2])


def are_linked(layout, start, steps):
    """Whether the steps are ways, each beginning where the start, or the way before it, leads."""
    beginnings = [layout.first_end(start)] + [layout.beyond(step) for step in steps]
    return all([layout.is_way(step) and step[:2] == end for step, end in zip(steps, beginnings)])


def is_first_end(layout, steps, end):
    """Whether this gate or signal stands at the end of the last step, and none at the end of another one."""
    named = [layout.named_at(step) for step in steps]
    return named[-1:] == [end] and named[:-1] == [None] * (len(named) - 1)


def needed(layout, route):
    """The list of the stretches of a route's steps and of its overlap, in their order."""
    _, steps, end = route
    return [step[0] for step in steps + layout.overlap_at(end)]


def has_no_repeat(layout, route):
    """Whether the stretches that a route needs, and the one in front of its start, are all different."""
    names = layout.in_front(route[0]) + needed(layout, route)
    return len(set(names)) == len(names)


def fits_route(layout, thing):
    """Whether any value is a route."""
    if not has_route_form(thing):
        return False
    start, steps, end = thing
    return are_linked(layout, start, steps) and is_first_end(layout, steps, end) and has_no_repeat(layout, thing)


def continued(layout, start, steps, beginning):
    """The list of the routes that begin with these steps and go on from the end beginning."""
    found = []
    for way in layout.ways_from(beginning):
        longer, end = steps + (way,), layout.named_at(way)
        if not has_no_repeat(layout, (start, longer, end)):
            continue
        if end is None:
            found.extend(continued(layout, start, longer, layout.beyond(way)))
        else:
            found.append((start, longer, end))
    return found


def table_of(layout):
    """The list of all routes, in the order of the table: at each tip of points the left way is followed first."""
    return [route for start in layout.starts for route in continued(layout, start, (), layout.first_end(start))]


def routes(plan):
    """The table of routes: those of the gates, then those of the signals."""
    return tuple(table_of(layout_of(plan)))


def is_route(plan, thing):
    """Whether any value is a route of the plan."""
    return fits_route(layout_of(plan), thing)


def demand_route(layout, thing):
    """Raises the error of a value that is not a route."""
    if not fits_route(layout, thing):
        raise BadRoute(thing)


def overlap_of(plan, route):
    """The overlap of the signal at which a route ends; () if it has none, or if the route ends at a gate."""
    layout = layout_of(plan)
    demand_route(layout, route)
    return layout.overlap_at(route[2])


def berth_in(layout, route):
    """The stretch of the last step of a route that ends at a signal, or None if it ends at a gate."""
    _, steps, end = route
    return steps[-1][0] if end in layout.signals else None


def berth_of(plan, route):
    """The stretch of the last step of a route that ends at a signal, or None if it ends at a gate."""
    layout = layout_of(plan)
    demand_route(layout, route)
    return berth_in(layout, route)


def needs(plan, route):
    """The ascending tuple of the stretches that a route needs."""
    layout = layout_of(plan)
    demand_route(layout, route)
    return tuple(sorted(needed(layout, route)))


def needed_lies(layout, route):
    """The ascending tuple of pairs (points, side): how a route needs points to lie."""
    # An overlap is no way of points, so the steps alone want something.
    return tuple(sorted([(step[0], wanted_side(step)) for step in route[1] if step[0] in layout.points]))


def lies_of(plan, route):
    """The ascending tuple of pairs (points, side): how a route needs points to lie."""
    layout = layout_of(plan)
    demand_route(layout, route)
    return needed_lies(layout, route)


def do_bar(plan, one, other):
    """Whether two routes need a common stretch."""
    layout = layout_of(plan)
    demand_route(layout, one)
    demand_route(layout, other)
    theirs = needed(layout, other)
    return any([name in theirs for name in needed(layout, one)])
