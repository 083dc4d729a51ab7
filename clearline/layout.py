"""A checked plan, ready to be looked up: its ways, its joints, and what stands at its ends."""

from clearline.checker import demand_checked, kinds_of, partners_of
from clearline.plans import is_step
from clearline.ways import ways_of


def ways_by_end(plan):
    """The dict from each end to the list of the ways that begin there, left before right."""
    ways = {}
    for stretch in plan[0]:
        for way in ways_of(stretch):
            ways.setdefault(way[:2], []).append(way)
    return ways


class Layout:
    """What a checked plan tells about its stretches, its ends, its gates and its signals."""

    def __init__(self, plan):
        _, _, gates, signals = plan
        self.kinds = kinds_of(plan)
        self.points = [name for name, kind in plan[0] if kind == "points"]
        self.partners = partners_of(plan)
        self.ways = ways_by_end(plan)
        self.gates = {name: end for name, end in gates}
        self.signals = {name: end for name, end, _ in signals}
        # Where routes start, and where they end: the gates, then the signals.
        self.starts = [item[0] for item in gates + signals]
        self.start_at = {item[1]: item[0] for item in gates + signals}
        self.overlaps = {name: overlap for name, _, overlap in signals}

    def is_way(self, thing):
        """Whether any value is a way of a stretch of the plan."""
        return is_step(thing) and thing in self.ways_from(thing[:2])

    def ways_from(self, end):
        """The list of the ways that begin at an end; there are none at the end None."""
        return self.ways.get(end, [])

    def beyond(self, way):
        """The end to which the end of a way is joined, or None."""
        return self.partners.get((way[0], way[2]))

    def named_at(self, way):
        """The name of the gate or signal at the end of a way, or None."""
        return self.start_at.get((way[0], way[2]))

    def first_end(self, start):
        """The end at which the routes of a gate or a signal begin; None for another name."""
        if start in self.gates:
            return self.gates[start]
        return self.partners.get(self.signals.get(start))

    def in_front(self, start):
        """The list of the stretch in front of a signal; there is none in front of a gate."""
        return [self.signals[start][0]] if start in self.signals else []

    def overlap_at(self, name):
        """The overlap of a signal; () for a gate, or for None."""
        return self.overlaps.get(name, ())


def layout_of(plan):
    """The layout of a plan; raises the error of a value that is no plan, or of a plan with a fault."""
    demand_checked(plan)
    return Layout(plan)
