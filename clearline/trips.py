"""Journeys, ready to be looked up: what each train needs, holds and wants, route by route."""

from clearline.errors import BadJourneys
from clearline.forms import are_items, is_integer, is_name, is_tuple_of
from clearline.layout import layout_of
from clearline.routes import berth_in, fits_route, needed, needed_lies


def lead_home(layout, row):
    """Whether routes lead from a gate by signals, each where the route before ends, to a gate."""
    starts, ends = [route[0] for route in row], [route[2] for route in row]
    if not row or starts[0] not in layout.gates or ends[-1] not in layout.gates:
        return False
    return ends[:-1] == starts[1:] and all([name in layout.signals for name in starts[1:]])


def fits_journey(layout, thing):
    """Whether any value is a journey."""
    if not is_tuple_of(thing, 2) or not is_name(thing[0]):
        return False
    return are_items(thing[1], lambda item: fits_route(layout, item)) and lead_home(layout, thing[1])


def fits_journeys(layout, thing):
    """Whether any value is journeys: of different trains."""
    if not are_items(thing, lambda item: fits_journey(layout, item)):
        return False
    trains = [train for train, _ in thing]
    return len(set(trains)) == len(trains)


def kept_behind(layout, route):
    """The ascending tuple of what a train holds where a route ends: nothing at a gate."""
    berth = berth_in(layout, route)
    if berth is None:
        return ()
    return tuple(sorted([berth] + [step[0] for step in layout.overlap_at(route[2])]))


def row_of_sweeping(layout, route):
    """The tuple of the stretches that are swept behind a train that goes a route, in their order."""
    start, steps, end = route
    row = layout.in_front(start) + [step[0] for step in steps]
    # At a signal the train stays on the last one.
    return tuple(row) if end in layout.gates else tuple(row[:-1])


def needed_from(layout, row, first):
    """The ascending tuple of the stretches that the routes of a row need, from the route at first on."""
    return tuple(sorted({name for route in row[first:] for name in needed(layout, route)}))


class Trips:
    """What journeys tell: of each train, by its position, a list by its routes or by how many of them it has gone."""

    def __init__(self, layout, journeys):
        rows = [row for _, row in journeys]
        self.layout = layout
        self.stretches = list(layout.kinds)
        self.trains = [train for train, _ in journeys]
        self.routes = rows
        self.lengths = [len(row) for row in rows]
        self.needs = [[tuple(sorted(needed(layout, route))) for route in row] for row in rows]
        self.lies = [[needed_lies(layout, route) for route in row] for row in rows]
        self.sweeps = [[row_of_sweeping(layout, route) for route in row] for row in rows]
        self.held = [[()] + [kept_behind(layout, route) for route in row] for row in rows]
        self.wanted = [[needed_from(layout, row, gone) for gone in range(len(row) + 1)] for row in rows]


def trips_of(plan, journeys):
    """The trips of journeys; raises the errors of a wrong plan, and of a value that is no journeys in it."""
    layout = layout_of(plan)
    if not fits_journeys(layout, journeys):
        raise BadJourneys(journeys)
    return Trips(layout, journeys)


def fits_count(trips, thing):
    """Whether any value is a count: how many of its routes each train has gone."""
    if not are_items(thing, is_integer) or len(thing) != len(trips.lengths):
        return False
    return all([0 <= gone <= length for gone, length in zip(thing, trips.lengths)])
