"""The form of the book of the box."""

from clearline.errors import BadBook
from clearline.forms import are_items, is_integer, is_integer_from, is_tuple_of
from clearline.trips import fits_count


def is_number(number, thing):
    """Whether any value is a number that a box has used whose greatest one is this."""
    return is_integer_from(thing, 1) and thing <= number


def fits_points(trips, number, at, under_way, work):
    """Whether this is the work of throwing the points of the route at under_way."""
    many = len(trips.lies[at][under_way])
    if not is_tuple_of(work, 3) or not is_tuple_of(work[1], many) or not is_tuple_of(work[2], many):
        return False
    return all([is_number(number, item) for item in work[1]]) and all([isinstance(item, bool) for item in work[2]])


def fits_signal(number, work, length):
    """Whether this is the work of opening a signal or of stopping it, with so many items."""
    return is_tuple_of(work, length) and all([is_number(number, item) for item in work[1:]])


def fits_sweep(trips, number, at, under_way, work):
    """Whether this is the work of sweeping behind the train that goes the route at under_way."""
    if not is_tuple_of(work, 3) or not is_integer_from(work[1], 0) or not is_number(number, work[2]):
        return False
    return work[1] < len(trips.sweeps[at][under_way])


def fits_work(trips, number, gone, at, work):
    """Whether any value is a work of the train at this position, which has gone so many routes."""
    if not isinstance(work, tuple) or work == ():
        return work == ()
    if gone == 0:
        return False
    word, under_way = work[0], gone - 1
    if word == "points":
        return fits_points(trips, number, at, under_way, work)
    if word == "sweep":
        return fits_sweep(trips, number, at, under_way, work)
    return (word == "open" and fits_signal(number, work, 2)) or (word == "stop" and fits_signal(number, work, 3))


def fits_works(trips, number, count, thing):
    """Whether any value is works: one of each train."""
    if not is_tuple_of(thing, len(trips.trains)):
        return False
    return all([fits_work(trips, number, count[at], at, work) for at, work in enumerate(thing)])


def fits_locks(trips, thing):
    """Whether any value is locks: for each stretch the train for which it is locked, or 0."""
    if not are_items(thing, is_integer) or len(thing) != len(trips.stretches):
        return False
    return all([0 <= lock <= len(trips.trains) for lock in thing])


def still_needed(trips, count, at, work):
    """The list of the stretches that a train still needs for its route under way."""
    if work == ():
        return []
    under_way = count[at] - 1
    row = list(trips.sweeps[at][under_way])
    if work[0] == "sweep":
        return row[work[1]:]
    return row + list(trips.needs[at][under_way])


def room_in(trips, book, at):
    """The list of what is locked for the train at this position, in the plan's order."""
    return [name for name, lock in zip(trips.stretches, book[2]) if lock == at + 1]


def has_room(trips, book, at):
    """Whether all that a train holds, and all that it still needs, is locked for it."""
    _, count, _, works = book
    room = room_in(trips, book, at)
    names = list(trips.held[at][count[at]]) + still_needed(trips, count, at, works[at])
    return all([name in room for name in names])


def fits_book(trips, thing):
    """Whether any value is a book."""
    if not is_tuple_of(thing, 4):
        return False
    number, count, locks, works = thing
    if not is_integer_from(number, 0) or not fits_count(trips, count) or not fits_locks(trips, locks):
        return False
    if not fits_works(trips, number, count, works):
        return False
    return all([has_room(trips, thing, at) for at in range(len(trips.trains))])


def demand_book(trips, thing):
    """Raises the error of a value that is no book."""
    if not fits_book(trips, thing):
        raise BadBook(thing)


def new_book(trips):
    """The book at the beginning."""
    return (0, (0,) * len(trips.trains), (0,) * len(trips.stretches), ((),) * len(trips.trains))


def word_of_work(book, at):
    """The word of the work of the train at this position, or None if it has none."""
    work = book[3][at]
    return work[0] if work else None
