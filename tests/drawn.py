"""Worlds in which deeds have been done: given ones, or ones that are drawn kind by kind, so that much happens."""

from clearline.worlds import World

WEIGHTS = {
    "order": 6, "tick": 2, "fall": 0.5, "up": 3, "bring": 10, "double": 2, "lose": 0.7, "cut": 1, "settle": 4, "in": 6,
    "on": 6, "tail": 4, "out": 6, "slip": 3, "back": 2,
}


def random_lies(chance, plan):
    """Lies of a plan, as the source of chance has it."""
    return tuple((name, chance.choice(("left", "right", "between"))) for name, kind in plan[0] if kind == "points")


def draw(chance, deeds):
    """One of the deeds."""
    kinds = {}
    for deed in deeds:
        kinds.setdefault(deed[0], []).append(deed)
    kind = chance.choices(list(kinds), [WEIGHTS[word] for word in kinds])[0]
    return chance.choice(kinds[kind])


def drive(chance, world, many):
    """Performs so many drawn deeds in a world; returns them."""
    done = []
    for _ in range(many):
        done.append(draw(chance, world.deeds()))
        world.do(done[-1])
    return done


def told(world):
    """All that a world tells."""
    return (
        world.standing(), world.field(), world.net(), world.log(), world.book(), world.accident(), world.home(),
        world.plan, world.journeys, world.deeds(),
    )


def done(plan, journeys, lies, *deeds):
    """A new world in which these deeds have been done."""
    world = World(plan, journeys, lies)
    for deed in deeds:
        world.do(deed)
    return world
