"""Orders, and the first reason for which one is refused."""

from clearline.books import word_of_work
from clearline.forms import is_one_of, is_tuple_of
from clearline.homely import certificate, fits_knot, gone_on
from clearline.items import exchanged

WORDS = ("go", "undo")


def fits_order_form(trips, thing):
    """Whether any value is an order of a train of the journeys."""
    return is_tuple_of(thing, 2) and is_one_of(thing[0], WORDS) and is_one_of(thing[1], trips.trains)


def stopping_reason(trips, book):
    """The reason that the first train with a work "stop" gives, or None."""
    for at, train in enumerate(trips.trains):
        if word_of_work(book, at) == "stop":
            return ("stopping", train)
    return None


def line_reason(trips, book, at):
    """The reason that a train ahead in the line at the same gate gives, or None."""
    count = book[1]
    if count[at] > 0:
        return None
    for other in range(at):
        if count[other] == 0 and trips.routes[other][0][0] == trips.routes[at][0][0]:
            return ("line", trips.trains[other])
    return None


def lock_reason(trips, book, at):
    """The reason that the first stretch locked for another train gives, or None."""
    _, count, locks, _ = book
    for name in trips.needs[at][count[at]]:
        lock = locks[trips.stretches.index(name)]
        if lock not in (0, at + 1):
            return ("locked", name, trips.trains[lock - 1])
    return None


def knot_reason(trips, count):
    """The reason that a knot of a count gives, or None."""
    found = certificate(trips, count)
    return found if found[0] == "knot" else None


def go_reason(trips, book, at):
    """The first reason for which a train is refused its next route, or None."""
    count = book[1]
    if count[at] == trips.lengths[at]:
        return ("home",)
    if word_of_work(book, at) is not None:
        return ("under way", trips.trains[at])
    reasons = (stopping_reason(trips, book), line_reason(trips, book, at), lock_reason(trips, book, at))
    for reason in reasons:
        if reason is not None:
            return reason
    return knot_reason(trips, gone_on(count, at))


def count_without(count, at):
    """The count without the last route of the train at this position."""
    return exchanged(count, at, count[at] - 1)


def undo_reason(trips, book, at):
    """The first reason for which a train's route under way is not taken back, or None."""
    word = word_of_work(book, at)
    if word is None:
        return ("standing", trips.trains[at])
    if word == "sweep":
        return ("gone", trips.trains[at])
    reason = stopping_reason(trips, book)
    return knot_reason(trips, count_without(book[1], at)) if reason is None else reason


def order_reason(trips, book, order):
    """The first reason for which an order is refused, or None."""
    word, train = order
    at = trips.trains.index(train)
    return go_reason(trips, book, at) if word == "go" else undo_reason(trips, book, at)


def fits_reason(trips, book, order, thing):
    """Whether an order is refused and any value is the first reason, or any knot if that is one."""
    reason = order_reason(trips, book, order)
    if reason is None or reason[0] != "knot":
        return reason is not None and thing == reason
    word, train = order
    at = trips.trains.index(train)
    count = gone_on(book[1], at) if word == "go" else count_without(book[1], at)
    return is_tuple_of(thing, 2) and thing[0] == "knot" and fits_knot(trips, count, thing[1])
