"""Journeys for the tests of the box and of worlds, and such journeys made at random."""

import itertools
import random

from clearline.plans import plan_text, read_plan
from clearline.routes import routes
from tests.layouts import CROSS, FACES, LADDER, LINE, NO_SIGNALS, RING, SHORT, TIPS, random_plan
from tests.samples import EMPTY, LOOP

# Two loops with a single line between them, and signals for both directions at each of the four tracks.
STATION = read_plan(
    "stretch w plain\nstretch p points\nstretch a plain\nstretch b plain\nstretch q points\nstretch m plain\n"
    "stretch r points\nstretch c plain\nstretch d plain\nstretch t points\nstretch e plain\n"
    "join w 1 p 0\njoin p 1 a 0\njoin p 2 b 0\njoin a 1 q 1\njoin b 1 q 2\njoin q 0 m 0\njoin m 1 r 0\n"
    "join r 1 c 0\njoin r 2 d 0\njoin c 1 t 1\njoin d 1 t 2\njoin t 0 e 0\n"
    "gate west w 0\ngate east e 1\nsignal ae a 1\nsignal be b 1\nsignal ce c 1\nsignal de d 1\n"
    "signal aw a 0\nsignal bw b 0\nsignal cw c 0\nsignal dw d 0"
)
# The same with one more signal, at which trains from the east wait on e.
HALT = read_plan(plan_text(STATION) + "\nsignal ew e 0")
# A signal with an overlap that lies behind another signal's berth, and two trains' ways that cross there.
YARD = read_plan(
    "stretch a plain\nstretch x crossing\nstretch b plain\nstretch o plain\nstretch c plain\nstretch d plain\n"
    "stretch k plain\njoin a 1 x 0\njoin x 1 b 0\njoin b 1 o 0\njoin o 1 k 0\njoin c 1 x 2\njoin x 3 d 0\n"
    "gate west a 0\ngate east k 1\ngate north c 0\ngate south d 1\n"
    "signal s a 1 over x 0 1\nsignal t b 1 over o 0 1\nsignal n c 1\nsignal f d 0 over x 3 2"
)


def journey_rows(plan, most=6, many=400):
    """The first so many tuples of routes that make a journey, the shorter ones first."""
    table = routes(plan)
    gates = {name for name, _ in plan[2]}
    rows = [(route,) for route in table if route[0] in gates]
    found = []
    while rows and len(found) < many:
        found.extend(row for row in rows if row[-1][2] in gates)
        rows = [
            row + (route,) for row in rows if len(row) < most and row[-1][2] not in gates
            for route in table if route[0] == row[-1][2]
        ][:many]
    return found


def path(plan, *names):
    """The routes that lead by these gates and signals, one after the other; of several the first one."""
    table = routes(plan)
    return tuple(
        next(route for route in table if (route[0], route[2]) == pair) for pair in zip(names, names[1:])
    )


def random_journeys(chance, plan, most_trains=5, rows=None):
    """Journeys of some trains, as the source of chance has it; of none if no route leads home."""
    rows = journey_rows(plan) if rows is None else rows
    names = chance.sample(["one", "two", "three", "b2", "b10", "a", "west", "z9"], chance.randint(0, most_trains))
    return tuple((name, chance.choice(rows)) for name in names) if rows else ()


def all_counts(journeys):
    """All counts of journeys."""
    return itertools.product(*[range(len(row) + 1) for _, row in journeys])


def random_count(chance, journeys):
    """A count, as the source of chance has it."""
    return tuple(chance.randint(0, len(row)) for _, row in journeys)


LOOP_TABLE = routes(LOOP)
BOTH = (("one", path(LOOP, "west", "sa", "east")), ("two", path(LOOP, "east", "sb", "west")))
LEFT = (("one", path(LOOP, "west", "sa", "east")), ("two", (LOOP_TABLE[2],)))
# Trains that stand face to face keep each other from going on.
FACING = (("t", path(LINE, "west", "s", "east")), ("u", path(LINE, "east", "r", "west")))
# Four trains; those from the west want both tracks of the second loop, those from the east both of the first one.
FOUR = (
    ("east1", path(STATION, "west", "ae", "ce", "east")),
    ("west1", path(STATION, "east", "cw", "bw", "west")),
    ("east2", path(STATION, "west", "be", "de", "east")),
    ("west2", path(STATION, "east", "dw", "aw", "west")),
)
YARDERS = (
    ("t", path(YARD, "west", "s", "t", "east")),
    ("u", path(YARD, "north", "n", "south")),
    ("v", path(YARD, "south", "f", "north")),
    ("w", path(YARD, "west", "s", "t", "east")),
)
# If t is on its way from a to c, u may come in and wait on e; if t goes back to a then, neither can go on.
PASSING = (("t", path(HALT, "west", "ae", "ce", "east")), ("u", path(HALT, "east", "ew", "dw", "aw", "west")))
# Of each plan some journeys that need much of it.
SAMPLES = (
    (LOOP, BOTH),
    (LOOP, LEFT),
    (LOOP, BOTH + (("three", path(LOOP, "west", "east")), ("four", path(LOOP, "west", "sa", "east")))),
    (LINE, FACING),
    (LINE, FACING + (("v", path(LINE, "west", "s", "east")), ("w", path(LINE, "east", "r", "west")))),
    (STATION, FOUR),
    (STATION, FOUR[::-1] + (("a", path(STATION, "west", "be", "ce", "east")),)),
    (HALT, PASSING + (("v", path(HALT, "west", "be", "ce", "east")),)),
    (YARD, YARDERS),
    (CROSS, tuple(zip("uvtw", journey_rows(CROSS)[:4]))),
    (FACES, tuple(zip("tuv", journey_rows(FACES)[:3]))),
    (RING, tuple(zip(("b", "a"), journey_rows(RING) * 2))),
    (TIPS, tuple(zip("abcd", journey_rows(TIPS)[:4]))),
    (LADDER, tuple(zip("edcba", journey_rows(LADDER)[::2]))),
    (NO_SIGNALS, tuple(zip("abc", journey_rows(NO_SIGNALS) * 2))),
    (SHORT, tuple(zip("ab", journey_rows(SHORT)))),
    (LOOP, ()),
    (EMPTY, ()),
)


def random_samples(many, seed, most_trains=5):
    """So many pairs of a plan and journeys of at least one train, the same ones for the same seed."""
    chance = random.Random(seed)
    known = [(plan, journey_rows(plan)) for plan in (LOOP, LINE, STATION, YARD, CROSS, FACES, TIPS, LADDER)]
    found = []
    while len(found) < many:
        plan, rows = chance.choice(known) if chance.random() < 0.5 else (random_plan(chance, 12), None)
        if len(plan[2]) > 0 and len(routes(plan)) <= 30:
            journeys = random_journeys(chance, plan, most_trains, rows)
            if journeys:
                found.append((plan, journeys))
    return found
