"""Works: the rows that lead from one to the next, and the letters that each one sends."""

from clearline.books import room_in
from clearline.items import exchanged


def with_work(book, at, work, used):
    """The book with another work of the train at this position, and so many numbers used for it."""
    number, count, locks, works = book
    return (number + used, count, locks, exchanged(works, at, work))


def with_locks(trips, book, names, lock):
    """The book with this lock on each of these stretches."""
    number, count, locks, works = book
    changed = [lock if name in names else old for name, old in zip(trips.stretches, locks)]
    return (number, count, tuple(changed), works)


def with_count(book, at, step):
    """The book that counts one route more, or less, of the train at this position."""
    number, count, locks, works = book
    return (number, exchanged(count, at, count[at] + step), locks, works)


def under_way(book, at):
    """The position of the route under way among the routes of the train."""
    return book[1][at] - 1


def granted(trips, book, at):
    """The book after the next route of a train is granted."""
    number, count, _, _ = book
    many = len(trips.lies[at][count[at]])
    locked = with_locks(trips, with_count(book, at, 1), trips.needs[at][count[at]], at + 1)
    numbers = tuple(range(number + 1, number + 1 + many))
    return with_work(locked, at, ("points", numbers, (False,) * many), many)


def opened(trips, book, at):
    """The book after the points of a route lie as it needs."""
    return with_work(book, at, ("open", book[0] + 1), 1)


def stopped(trips, book, at):
    """The book after the stopping of a signal has begun."""
    return with_work(book, at, ("stop", book[0] + 1, book[3][at][1]), 1)


def swept_to(trips, book, at, place):
    """The book after the sweeping has come to this place, or is over behind the last one."""
    if place < len(trips.sweeps[at][under_way(book, at)]):
        return with_work(book, at, ("sweep", place, book[0] + 1), 1)
    return with_work(book, at, (), 0)


def passed(trips, book, at):
    """The book after a train has begun to go its route."""
    return swept_to(trips, book, at, 0)


def freed(trips, book, at):
    """The book after the stretch at the place of the sweeping is free."""
    place = book[3][at][1]
    stretch = trips.sweeps[at][under_way(book, at)][place]
    return swept_to(trips, with_locks(trips, book, [stretch], 0), at, place + 1)


def undone(trips, book, at):
    """The book after a train's route is taken back."""
    before = with_count(book, at, -1)
    kept = trips.held[at][before[1][at]]
    given = [name for name in room_in(trips, before, at) if name not in kept]
    return with_work(with_locks(trips, before, given, 0), at, (), 0)


CHANGES = {
    "go": granted, "open": opened, "stop": stopped, "sweep": passed, "free": freed, "undone": undone,
}


def after_row(trips, book, row):
    """The book after a row that fits it."""
    word, train = row
    change = CHANGES[word]
    return change(trips, book, trips.trains.index(train))


def work_letters(trips, book, at):
    """The list of the letters that the work of a train sends, now and at each tick."""
    work = book[3][at]
    if work == ():
        return []
    place = under_way(book, at)
    word = work[0]
    if word == "points":
        waiting = zip(trips.lies[at][place], work[1], work[2])
        return [("throw", name, number, side) for (name, side), number, is_done in waiting if not is_done]
    if word == "sweep":
        return [("look", trips.sweeps[at][place][work[1]], work[2])]
    return [(word, trips.routes[at][place][0], work[1])]
