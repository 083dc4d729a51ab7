"""Calm runs, in which all trains come home, and reports of where the trains are."""

from clearline.errors import BadWorld
from clearline.log import come_up
from clearline.worlds import World

CALM_MOVES = ("in", "on", "tail", "out")


def demand_world(world):
    """Raises the error of a value that is no world, or of a world with an accident."""
    if not isinstance(world, World) or world.accident() is not None:
        raise BadWorld(world)


def trains_of(world):
    """The list of the trains of a world, in the journeys' order."""
    return [train for train, _ in world.journeys]


def empty_net(world):
    """Brings the items of the net, the first one first, until there is none."""
    while world.net():
        world.do(("bring", 0))


def order_all(world):
    """Orders each train that is not home to go."""
    for train in trains_of(world):
        if train not in world.home():
            world.do(("order", ("go", train)))


def settle_all(world):
    """Lets all points that lie between settle."""
    for name, lie in world.standing()[1]:
        if lie == "between":
            world.do(("settle", name))


def tick_once(world):
    """Lets a tick come, and empties the net."""
    world.do(("tick",))
    empty_net(world)


def calm_moves(world, train, words):
    """The list of the moves with these words that a train can make."""
    return [deed for deed in world.deeds() if deed[0] in words and deed[1] == train]


def move_on(world, train):
    """Lets a train do what it can: back, and then as far as it comes."""
    for move in calm_moves(world, train, ("back",)):
        world.do(move)
    found = calm_moves(world, train, CALM_MOVES)
    while found:
        world.do(found[0])
        found = calm_moves(world, train, CALM_MOVES)


def go_round(world):
    """Performs a calm round."""
    if world.book() is None:
        world.do(("up",))
    order_all(world)
    empty_net(world)
    settle_all(world)
    tick_once(world)
    for train in trains_of(world):
        move_on(world, train)
    empty_net(world)
    tick_once(world)


def calm_round(world):
    """Performs a calm round; returns how many trains are home."""
    demand_world(world)
    go_round(world)
    return len(world.home())


def calm_run(world):
    """Performs calm rounds until all trains are home; returns how many."""
    demand_world(world)
    rounds = 0
    while len(world.home()) < len(world.journeys):
        go_round(world)
        rounds += 1
    return rounds


def logged_book(world):
    """The book after the log."""
    return come_up(world.plan, world.journeys, world.log())


def most_rounds(world):
    """In how many calm rounds, at most, all trains come home."""
    demand_world(world)
    _, count, _, works = logged_book(world)
    left = sum([len(row) - gone for (_, row), gone in zip(world.journeys, count)])
    return left + len([work for work in works if work != ()]) + 1


def report_of(row, gone, work):
    """The pair (word, name) that tells where a train is that has gone so many routes of its row."""
    if work != ():
        return ("under way", row[gone - 1][2])
    if gone == 0:
        return ("outside", row[0][0])
    return ("home" if gone == len(row) else "standing", row[gone - 1][2])


def report(world):
    """The tuple of (train, word, name): where each train is by the book after the log."""
    demand_world(world)
    _, count, _, works = logged_book(world)
    found = zip(world.journeys, count, works)
    return tuple([(train,) + report_of(row, gone, work) for (train, row), gone, work in found])
