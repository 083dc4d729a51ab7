"""Checked plans for the tests of routes, trains and elements, and such plans made at random."""

import random

from clearline.checker import is_checked
from clearline.plans import read_plan
from tests.samples import EMPTY, FULL, LOOP, WORDS

ENDS = {"plain": 2, "points": 3, "crossing": 4}
WAYS = {
    "plain": ((0, 1), (1, 0)),
    "points": ((0, 1), (1, 0), (0, 2), (2, 0)),
    "crossing": ((0, 1), (1, 0), (2, 3), (3, 2)),
}

# One line, with a signal in each direction; s has an overlap, which is a stretch of its own.
LINE = read_plan(
    "stretch a plain\nstretch o plain\nstretch b plain\njoin a 1 o 0\njoin o 1 b 0\n"
    "gate west a 0\ngate east b 1\nsignal s a 1 over o 0 1\nsignal r b 0"
)
# A ring of p, a and b: s has the overlap b, and u, behind it, leads into the ring again.
RING = read_plan(
    "stretch w plain\nstretch p points\nstretch a plain\nstretch b plain\njoin w 1 p 1\njoin p 0 a 0\n"
    "join a 1 b 0\njoin b 1 p 2\ngate west w 0\nsignal s a 1 over b 0 1\nsignal u b 1\nsignal v a 0"
)
# Two lines that cross. The overlaps of s and of n are the crossing, in either direction.
CROSS = read_plan(
    "stretch a plain\nstretch b plain\nstretch c plain\nstretch d plain\nstretch x crossing\n"
    "join a 1 x 0\njoin x 1 b 0\njoin c 1 x 2\njoin d 0 x 3\n"
    "gate west a 0\ngate east b 1\ngate north c 0\ngate south d 1\n"
    "signal s a 1 over x 0 1\nsignal n d 0 over x 3 2\nsignal z c 1"
)
# Points tip to tip; d ends at a buffer.
TIPS = read_plan(
    "stretch a plain\nstretch b plain\nstretch p points\nstretch q points\nstretch c plain\nstretch d plain\n"
    "join a 1 p 1\njoin b 1 p 2\njoin p 0 q 0\njoin q 1 c 0\njoin q 2 d 0\n"
    "gate g a 0\ngate h b 0\ngate e c 1\nsignal s d 0"
)
# Three points one behind the other, entered at their tips; the way to the right of each is listed first.
LADDER = read_plan(
    "stretch w plain\nstretch p points\nstretch q points\nstretch r points\nstretch a plain\nstretch b plain\n"
    "stretch c plain\nstretch d plain\njoin p 2 r 0\njoin r 2 d 0\njoin r 1 c 0\njoin q 2 b 0\njoin q 1 a 0\n"
    "join p 1 q 0\njoin w 1 p 0\ngate gd d 1\ngate gc c 1\ngate gw w 0\ngate gb b 1\ngate ga a 1"
)
# Gates, but each way from them ends at a buffer.
BUFFERS = read_plan("stretch a plain\nstretch p points\nstretch b plain\njoin a 1 p 0\njoin p 1 b 0\ngate g a 0")
# A ring without gates; each signal leads to the next one.
NO_GATES = read_plan(
    "stretch a plain\nstretch b plain\nstretch c plain\njoin a 1 b 0\njoin b 1 c 0\njoin c 1 a 0\n"
    "signal z a 1\nsignal y b 1 over c 0 1\nsignal x c 1"
)
NO_SIGNALS = read_plan(
    "stretch a plain\nstretch x crossing\nstretch b plain\njoin a 1 x 3\njoin x 2 b 1\ngate one b 0\ngate two a 0"
)
# Both ends of one stretch are gates.
SHORT = read_plan("stretch a plain\ngate g a 1\ngate h a 0")
# Both signals stand at one joint, face to face.
FACES = read_plan(
    "stretch a plain\nstretch b plain\nstretch c plain\njoin a 1 b 0\njoin b 1 c 0\n"
    "gate g a 0\ngate h c 1\nsignal s a 1\nsignal t b 0\nsignal u b 1 over c 0 1\nsignal v c 0"
)

PLANS = (
    EMPTY, LOOP, FULL, WORDS, LINE, RING, CROSS, TIPS, LADDER, BUFFERS, NO_GATES, NO_SIGNALS, SHORT, FACES,
)
UNCHECKED = (
    ((("a", "plain"), ("a", "points")), (), (), ()),
    read_plan("stretch a plain\njoin a 0 z 0"),
    read_plan("stretch a plain\njoin a 0 a 1"),
    read_plan("stretch a points\ngate g a 0"),
    read_plan("stretch a plain\nsignal s a 0"),
    read_plan("stretch a plain\nstretch b plain\njoin a 1 b 0\nsignal s a 1 over b 1 0"),
)


def ways_of_plan(plan):
    """All ways of a plan."""
    return [(name, start, goal) for name, kind in plan[0] for start, goal in WAYS[kind]]


def random_plan(chance, most_stretches):
    """A checked plan, as the source of chance has it."""
    kinds = ["plain"] * 4 + ["points"] * 2 + ["crossing"]
    stretches = tuple((f"t{at}", chance.choice(kinds)) for at in range(chance.randint(2, most_stretches)))
    free = [(name, number) for name, kind in stretches for number in range(ENDS[kind])]
    chance.shuffle(free)
    partners, joints = {}, []
    for _ in range(chance.randint(len(stretches) - 1, 2 * len(stretches))):
        one = free.pop()
        others = [end for end in free if end[0] != one[0]]
        if others and len(free) > 3:
            other = chance.choice(others)
            free.remove(other)
            joints.append((one, other))
            partners.update({one: other, other: one})
        else:
            free.insert(0, one)
    plain = {name for name, kind in stretches if kind == "plain"}
    gates = [(f"g{at}", end) for at, end in enumerate(free[:4]) if end[0] in plain]
    ends = [end for end in partners if end[0] in plain]
    chance.shuffle(ends)
    signals = [(f"s{at}", end, random_overlap(chance, stretches, partners[end])) for at, end in enumerate(ends[:5])]
    chance.shuffle(gates)
    chance.shuffle(signals)
    return (stretches, tuple(joints), tuple(gates), tuple(signals))


def random_overlap(chance, stretches, beginning):
    """An overlap that begins at this end, if there can be one, and if chance will have it."""
    kind = dict(stretches)[beginning[0]]
    if kind == "points" or chance.random() < 0.4:
        return ()
    return tuple((beginning[0], start, goal) for start, goal in WAYS[kind] if start == beginning[1])


def random_plans(many, seed, most_stretches=8):
    """So many checked plans, the same ones for the same seed."""
    chance = random.Random(seed)
    plans = [random_plan(chance, most_stretches) for _ in range(many)]
    assert all(is_checked(plan) for plan in plans)
    return plans
