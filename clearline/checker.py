"""The checker of plans: their faults, and what is at the ends of a plan without one."""

from clearline.errors import BadChecked, BadEnd, BadPlan
from clearline.plans import is_end, is_plan
from clearline.ways import ENDS, ways_of

OVERLAP_KINDS = ("plain", "crossing")


def kinds_of(plan):
    """The dict from the name of each stretch to its kind."""
    return {name: kind for name, kind in plan[0]}


def partners_of(plan):
    """The dict from each joined end to the end to which it is joined."""
    partners = {}
    for one, other in plan[1]:
        partners[one] = other
        partners[other] = one
    return partners


def end_exists(kinds, end):
    """Whether this is an end of one of the stretches with these kinds."""
    name, number = end
    return name in kinds and number < ENDS[kinds[name]]


def repeated_name(plan):
    """The first name of a stretch, a gate or a signal that occurred earlier, or None."""
    stretches, _, gates, signals = plan
    seen = set()
    for item in stretches + gates + signals:
        if item[0] in seen:
            return item[0]
        seen.add(item[0])
    return None


def missing_end(plan):
    """The name of the first joint, gate or signal with an end that is not there, or None."""
    _, joints, gates, signals = plan
    kinds = kinds_of(plan)
    for one, other in joints:
        if not end_exists(kinds, one) or not end_exists(kinds, other):
            return one[0]
    for item in gates + signals:
        if not end_exists(kinds, item[1]):
            return item[0]
    return None


def wrong_joint(plan):
    """The name of the first joint of one stretch alone or with an end that is joined already, or None."""
    seen = set()
    for one, other in plan[1]:
        if one[0] == other[0] or one in seen or other in seen:
            return one[0]
        seen.add(one)
        seen.add(other)
    return None


def wrong_place(plan, items, at_joint):
    """The name of the first gate or signal that stands where none may stand, or None.

    A gate stands at an end that is not joined (at_joint is False), a signal at one that is.
    """
    kinds = kinds_of(plan)
    partners = partners_of(plan)
    seen = set()
    for item in items:
        name, end = item[:2]
        if (end in partners) != at_joint or end in seen or kinds.get(end[0]) != "plain":
            return name
        seen.add(end)
    return None


def fits_overlap(kinds, beginning, step):
    """Whether a step is a way of a plain stretch or a crossing that begins at this end."""
    name = step[0]
    if step[:2] != beginning or kinds.get(name) not in OVERLAP_KINDS:
        return False
    return step in ways_of((name, kinds[name]))


def wrong_overlap(plan):
    """The name of the first signal whose overlap is not such a way, or None."""
    kinds = kinds_of(plan)
    partners = partners_of(plan)
    for name, end, overlap in plan[3]:
        if overlap and not fits_overlap(kinds, partners.get(end), overlap[0]):
            return name
    return None


def fault(plan):
    """The first fault of a plan, a pair (word, name), or None."""
    if not is_plan(plan):
        raise BadPlan(plan)
    found = (
        ("name", repeated_name(plan)),
        ("end", missing_end(plan)),
        ("joint", wrong_joint(plan)),
        ("gate", wrong_place(plan, plan[2], False)),
        ("signal", wrong_place(plan, plan[3], True)),
        ("overlap", wrong_overlap(plan)),
    )
    for word, name in found:
        if name is not None:
            return (word, name)
    return None


def is_checked(plan):
    """Whether a plan has no fault."""
    return fault(plan) is None


def demand_checked(plan):
    """Raises the error of a value that is no plan, or of a plan with a fault."""
    if not is_checked(plan):
        raise BadChecked(plan)


def demand_end(plan, end):
    """Raises the error of a wrong plan, or of a value that is no end of its stretches."""
    demand_checked(plan)
    if not is_end(end) or not end_exists(kinds_of(plan), end):
        raise BadEnd(end)


def joined_to(plan, end):
    """The end to which an end is joined, or None for the end of a gate or a buffer."""
    demand_end(plan, end)
    return partners_of(plan).get(end)


def at_end(plan, end):
    """The pair (word, name) of the signal or gate at an end, or None."""
    demand_end(plan, end)
    for word, items in (("gate", plan[2]), ("signal", plan[3])):
        for item in items:
            if item[1] == end:
                return (word, item[0])
    return None
