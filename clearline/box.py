"""The box: it grants routes, opens them, frees the stretches behind each train and takes routes back."""

from clearline.books import new_book, demand_book, fits_book, room_in, word_of_work
from clearline.errors import BadAnswer, BadOrder, BadTrain
from clearline.field import fits_answer
from clearline.forms import is_one_of
from clearline.orders import fits_order_form, fits_reason, order_reason
from clearline.trips import trips_of
from clearline.works import after_row, under_way, with_work, work_letters


def is_book(plan, journeys, thing):
    """Whether any value is a book of the journeys."""
    return fits_book(trips_of(plan, journeys), thing)


def begun_book(plan, journeys):
    """The book at the beginning."""
    return new_book(trips_of(plan, journeys))


def booked_trips(plan, journeys, book):
    """The trips of journeys; raises the errors of wrong ones, and of a value that is no book of them."""
    trips = trips_of(plan, journeys)
    demand_book(trips, book)
    return trips


def room_of(plan, journeys, book, train):
    """The ascending tuple of the stretches that are locked for a train."""
    trips = booked_trips(plan, journeys, book)
    if not is_one_of(train, trips.trains):
        raise BadTrain(train)
    return tuple(sorted(room_in(trips, book, trips.trains.index(train))))


def written(trips, book, rows):
    """The book after these rows."""
    for row in rows:
        book = after_row(trips, book, row)
    return book


def all_deeds(rows, letters):
    """The tuple of the deeds: the rows to write, then the letters to send."""
    return tuple([("row", row) for row in rows] + [("send", letter) for letter in letters])


def after_rows(trips, book, at, words):
    """The pair (book, deeds) after rows with these words about one train, whose work then sends its letters."""
    rows = [(word, trips.trains[at]) for word in words]
    after = written(trips, book, rows)
    return (after, all_deeds(rows, work_letters(trips, after, at)))


def words_after_order(trips, book, word, at):
    """The list of the words of the rows that follow from an order that is not refused."""
    if word == "go":
        return ["go"] if trips.lies[at][book[1][at]] else ["go", "open"]
    return ["undone"] if word_of_work(book, at) == "points" else ["stop"]


def after_order(trips, book, order):
    """The pair (book, deeds) after an order."""
    reason = order_reason(trips, book, order)
    if reason is not None:
        return (book, (("refused", reason),))
    word, train = order
    at = trips.trains.index(train)
    return after_rows(trips, book, at, words_after_order(trips, book, word, at))


def demand_order(trips, order):
    """Raises the error of a value that is no order of a train of the journeys."""
    if not fits_order_form(trips, order):
        raise BadOrder(order)


def ordered(plan, journeys, book, order):
    """The pair (book, deeds) after an order."""
    trips = booked_trips(plan, journeys, book)
    demand_order(trips, order)
    return after_order(trips, book, order)


def after_lie(trips, book, at, answer):
    """The pair (book, deeds) after an answer of points, for the work "points" of one train."""
    _, numbers, done = book[3][at]
    _, name, last, lie = answer
    waiting = zip(trips.lies[at][under_way(book, at)], numbers, done)
    now = tuple([is_done or (pair == (name, lie) and last >= number) for pair, number, is_done in waiting])
    if now == done:
        return (book, ())
    marked = with_work(book, at, ("points", numbers, now), 0)
    return after_rows(trips, marked, at, ["open"]) if all(now) else (marked, ())


def word_after_signal(work, answer):
    """The word of the row that follows when the start of a route has answered its work "open" or "stop", or None."""
    _, _, last, opening, has_passed = answer
    # The opening is the last item of both works: a work "stop" keeps that of the work "open" before it.
    if has_passed and opening == work[-1]:
        return "sweep"
    return "undone" if work[0] == "stop" and last >= work[1] else None


def word_after(trips, book, at, answer):
    """The word of the row that follows from an answer for the work of one train, which is not "points", or None."""
    work = book[3][at]
    place = under_way(book, at)
    if work[0] == "sweep":
        _, step, number = work
        return "free" if answer == ("seen", trips.sweeps[at][place][step], number, True) else None
    start = trips.routes[at][place][0]
    return word_after_signal(work, answer) if answer[:2] == ("signal", start) else None


def after_answer_for(trips, book, at, answer):
    """The pair (book, deeds) after an answer, for the work of one train."""
    work = book[3][at]
    if work == ():
        return (book, ())
    if work[0] == "points":
        return after_lie(trips, book, at, answer) if answer[0] == "points" else (book, ())
    word = word_after(trips, book, at, answer)
    return (book, ()) if word is None else after_rows(trips, book, at, [word])


def after_answer(trips, book, answer):
    """The pair (book, deeds) after an answer."""
    for at in range(len(trips.trains)):
        after, deeds = after_answer_for(trips, book, at, answer)
        if after != book:
            # What is locked keeps an answer from concerning a second work.
            return (after, deeds)
    return (book, ())


def told(plan, journeys, book, answer):
    """The pair (book, deeds) after an answer."""
    trips = booked_trips(plan, journeys, book)
    if not fits_answer(trips.layout, answer):
        raise BadAnswer(answer)
    return after_answer(trips, book, answer)


def after_tick(trips, book):
    """The pair (book, deeds) after a tick."""
    # A fall can come between the granting of a route without points and its opening.
    ready = [at for at, work in enumerate(book[3]) if work[:1] == ("points",) and all(work[2])]
    rows = [("open", trips.trains[at]) for at in ready]
    after = written(trips, book, rows)
    letters = [letter for at in range(len(trips.trains)) for letter in work_letters(trips, after, at)]
    return (after, all_deeds(rows, letters))


def ticked(plan, journeys, book):
    """The pair (book, deeds) after a tick."""
    return after_tick(booked_trips(plan, journeys, book), book)


def reason_holds(plan, journeys, book, order, thing):
    """Whether an order is refused and any value is the first reason, or any knot if that is one."""
    trips = booked_trips(plan, journeys, book)
    demand_order(trips, order)
    return fits_reason(trips, book, order, thing)
