"""The rules of parts 3 and 4 written once more, close to the document's words, to compare the program with."""

from tests.layouts import ways_of_plan


def joined(plan, end):
    """The end to which an end is joined, or None."""
    for one, other in plan[1]:
        if end == one:
            return other
        if end == other:
            return one
    return None


def marker(plan, end):
    """The name of the gate or signal at an end, or None."""
    for item in plan[2] + plan[3]:
        if item[1] == end:
            return item[0]
    return None


def overlap(plan, name):
    """The overlap of a signal, () for a gate."""
    return {signal[0]: signal[2] for signal in plan[3]}.get(name, ())


def begins(plan, start):
    """The end at which routes with this start begin."""
    if start in dict(plan[2]):
        return dict(plan[2])[start]
    return joined(plan, {signal[0]: signal[1] for signal in plan[3]}[start])


def goal(way):
    """The end at which a way ends."""
    return (way[0], way[2])


def rows_from(plan, beginning, most):
    """All rows of at most so many linked ways that begin at an end; stretches may occur twice."""
    rows = [(way,) for way in ways_of_plan(plan) if way[:2] == beginning]
    found = []
    while rows:
        found.extend(rows)
        rows = [
            row + (way,) for row in rows if len(row) < most
            for way in ways_of_plan(plan) if way[:2] == joined(plan, goal(row[-1]))
        ]
    return found


def obeys(plan, start, row):
    """Whether a row of linked ways that begins where the start leads makes a route."""
    end = marker(plan, goal(row[-1]))
    if end is None or any(marker(plan, goal(way)) is not None for way in row[:-1]):
        return False
    names = [way[0] for way in row + overlap(plan, end)]
    fronts = [signal[1][0] for signal in plan[3] if signal[0] == start]
    return len(names) == len(set(names)) and not set(names) & set(fronts)


def choices(plan, row):
    """At which side a row leaves each of the points that it enters at the tip."""
    return [way[2] for way in row if dict(plan[0])[way[0]] == "points" and way[1] == 0]


def table(plan):
    """The table of routes."""
    found = []
    for start in [item[0] for item in plan[2] + plan[3]]:
        rows = [row for row in rows_from(plan, begins(plan, start), len(plan[0])) if obeys(plan, start, row)]
        rows.sort(key=lambda row: choices(plan, row))
        found.extend((start, row, marker(plan, goal(row[-1]))) for row in rows)
    return tuple(found)


def possible(plan, standing, name):
    """The possible moves of a train, in the document's order."""
    trains, lies, shows = standing
    mine = [train for train in trains if train[0] == name]
    if not mine:
        return [("in", name, gate) for gate, _ in plan[2] if gate in shows]
    cover, is_slipped = mine[0][1:]
    end = goal(cover[0])
    signals = {signal[0] for signal in plan[3]}
    here = marker(plan, end)
    conditions = (
        ("on", len(cover) == 1 and joined(plan, end) is not None and (here not in signals or here in shows)),
        ("tail", len(cover) == 2 and not is_slipped),
        ("out", len(cover) == 1 and here in dict(plan[2])),
        ("slip", len(cover) == 1 and overlap(plan, here) != () and here not in shows),
        ("back", is_slipped),
    )
    return [(word, name) for word, holds in conditions if holds]


def ahead(plan, lies, beginning):
    """The way that a head takes at an end, or None if it derails there."""
    ways = [way for way in ways_of_plan(plan) if way[:2] == beginning]
    lie = dict(lies).get(beginning[0])
    if lie is None:
        return ways[0]
    sides = {"left": {0, 1}, "right": {0, 2}}
    fitting = [way for way in ways if set(way[1:]) == sides.get(lie)]
    return fitting[0] if fitting else None


def after(plan, standing, move):
    """What comes of a possible move."""
    trains, lies, shows = standing
    word, name = move[:2]
    others = [train for train in trains if train[0] != name]
    cover = dict((train[0], train[1]) for train in trains).get(name)
    if word == "out":
        return (tuple(others), lies, shows)
    if word == "tail":
        return (tuple(sorted(others + [(name, cover[:1], False)])), lies, shows)
    if word == "back":
        return (tuple(sorted(others + [(name, cover[1:], False)])), lies, shows)
    here = move[2] if word == "in" else marker(plan, goal(cover[0]))
    beginning = dict(plan[2])[here] if word == "in" else joined(plan, goal(cover[0]))
    if any(beginning[0] == way[0] for train in trains for way in train[1]):
        return ("meet", beginning[0])
    way = ahead(plan, lies, beginning)
    if way is None:
        return ("derailed", beginning[0])
    train = (name, (way,) + (cover or ()), word == "slip")
    return (tuple(sorted(others + [train])), lies, tuple(name for name in shows if name != here))
