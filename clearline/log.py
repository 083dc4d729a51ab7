"""The log of the box, and how the box comes up again from it."""

from clearline.books import new_book, word_of_work
from clearline.errors import BadDeeds, BadLog
from clearline.forms import are_items, is_one_of, is_tuple_of
from clearline.orders import go_reason, undo_reason
from clearline.trips import trips_of
from clearline.works import after_row

WORDS = ("go", "open", "stop", "sweep", "free", "undone")
# Which works each row but "go" can end.
WORKS_BEFORE = {
    "open": ("points",), "stop": ("open",), "sweep": ("open", "stop"), "free": ("sweep",), "undone": ("points", "stop"),
}


def may_follow(trips, book, word, at):
    """Whether a row with this word about the train at this position can be written next."""
    if word == "go":
        return go_reason(trips, book, at) is None
    work = word_of_work(book, at)
    if work not in WORKS_BEFORE[word]:
        return False
    is_by_order = word == "stop" or (word == "undone" and work == "points")
    return not is_by_order or undo_reason(trips, book, at) is None


def fits_row(trips, book, thing):
    """Whether any value is a row that can be written next."""
    if not is_tuple_of(thing, 2) or not is_one_of(thing[0], WORDS) or not is_one_of(thing[1], trips.trains):
        return False
    return may_follow(trips, book, thing[0], trips.trains.index(thing[1]))


def fits_log(trips, thing):
    """Whether any value is a log."""
    if not isinstance(thing, tuple):
        return False
    book = new_book(trips)
    for row in thing:
        if not fits_row(trips, book, row):
            return False
        book = after_row(trips, book, row)
    return True


def book_after(trips, log):
    """The book after a log."""
    book = new_book(trips)
    for row in log:
        book = after_row(trips, book, row)
    return book


def is_log(plan, journeys, thing):
    """Whether any value is a log of the journeys."""
    return fits_log(trips_of(plan, journeys), thing)


def come_up(plan, journeys, log):
    """The book after a log."""
    trips = trips_of(plan, journeys)
    if not fits_log(trips, log):
        raise BadLog(log)
    return book_after(trips, log)


def is_deed(thing):
    """Whether any value is a row to write or a letter to send, by its first word."""
    return is_tuple_of(thing, 2) and is_one_of(thing[0], ("row", "send"))


def items_of(deeds, word):
    """The tuple of the rows, or of the letters, among deeds; raises the error of a value that is none."""
    if not are_items(deeds, is_deed):
        raise BadDeeds(deeds)
    return tuple([item for first, item in deeds if first == word])


def rows_of(deeds):
    """The tuple of the rows among deeds."""
    return items_of(deeds, "row")


def letters_of(deeds):
    """The tuple of the letters among deeds."""
    return items_of(deeds, "send")
