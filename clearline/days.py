"""Days: sequences in which the routes of journeys are gone, the wishes they break, and the least price."""

from clearline.errors import BadDay, BadWishes
from clearline.forms import are_items, is_integer, is_integer_from, is_one_of, is_tuple_of
from clearline.homely import gone_on, may_go
from clearline.trips import fits_count, trips_of


def fits_day(trips, thing):
    """Whether any value is a day: each train's name as often as it has routes."""
    names = [train for train, length in zip(trips.trains, trips.lengths) for _ in range(length)]
    return are_items(thing, lambda item: is_one_of(item, trips.trains)) and sorted(thing) == sorted(names)


def zeros(trips):
    """The count at the beginning of a day."""
    return (0,) * len(trips.trains)


def is_gone(trips, day):
    """Whether each train of a day may go when it is its turn."""
    count = zeros(trips)
    for train in day:
        at = trips.trains.index(train)
        if not may_go(trips, count, at):
            return False
        count = gone_on(count, at)
    return True


def can_be_gone(plan, journeys, thing):
    """Whether any value is a day that can be gone."""
    trips = trips_of(plan, journeys)
    return fits_day(trips, thing) and is_gone(trips, thing)


def names_route(trips, train, number):
    """Whether these are the name of a train and, from 1 on, the number of one of its routes."""
    if not is_one_of(train, trips.trains) or not is_integer_from(number, 1):
        return False
    return number <= trips.lengths[trips.trains.index(train)]


def fits_wish(trips, thing):
    """Whether any value is a wish."""
    if not is_tuple_of(thing, 4):
        return False
    one, number, other, later = thing
    return names_route(trips, one, number) and names_route(trips, other, later) and one != other


def wishing_trips(plan, journeys, wishes):
    """The trips of journeys; raises the errors of wrong ones, and of a value that is no wishes about them."""
    trips = trips_of(plan, journeys)
    if not are_items(wishes, lambda item: fits_wish(trips, item)):
        raise BadWishes(wishes)
    return trips


def broken_at(trips, wishes, count, at):
    """How many wishes are broken when the train at this position goes its next route by a count."""
    train, number = trips.trains[at], count[at] + 1
    firsts = [(one, first) for one, first, other, later in wishes if other == train and later == number]
    return len([one for one, first in firsts if count[trips.trains.index(one)] < first])


def price_of(trips, wishes, day):
    """How many of the wishes a day breaks."""
    count, broken = zeros(trips), 0
    for train in day:
        at = trips.trains.index(train)
        broken += broken_at(trips, wishes, count, at)
        count = gone_on(count, at)
    return broken


def price(plan, journeys, wishes, day):
    """How many of the wishes a day breaks; the day need not be one that can be gone."""
    trips = wishing_trips(plan, journeys, wishes)
    if not fits_day(trips, day):
        raise BadDay(day)
    return price_of(trips, wishes, day)


def goers(trips, count):
    """The list of the positions of the trains that may go by a count."""
    return [at for at in range(len(trips.trains)) if may_go(trips, count, at)]


def goers_by_count(trips):
    """The dict from each count that a day can lead to, to the list of the trains that may go there."""
    found, waiting = {}, [zeros(trips)]
    while waiting:
        count = waiting.pop()
        if count not in found:
            found[count] = goers(trips, count)
            waiting.extend([gone_on(count, at) for at in found[count]])
    return found


def number_after(trips, wishes, numbers, count, at):
    """The number at the count after a train's going, with the wishes that are broken then."""
    return numbers[gone_on(count, at)] + broken_at(trips, wishes, count, at)


def least_numbers(trips, wishes, ways):
    """The dict from each count to the least number of wishes that are broken from there on."""
    numbers = {}
    # A count leads to greater ones alone.
    for count in sorted(ways, reverse=True):
        prices = [number_after(trips, wishes, numbers, count, at) for at in ways[count]]
        # From these counts someone may always go, until all are home.
        numbers[count] = min(prices) if prices else 0
    return numbers


def least_day(trips, wishes, ways, numbers):
    """The tuple of the trains of a day with the least price."""
    count, day = zeros(trips), []
    while ways[count]:
        least = numbers[count]
        best = [at for at in ways[count] if number_after(trips, wishes, numbers, count, at) == least]
        day.append(trips.trains[best[0]])
        count = gone_on(count, best[0])
    return tuple(day)


def judge_days(plan, journeys, wishes):
    """A paper of the least price: ("least", day, table)."""
    trips = wishing_trips(plan, journeys, wishes)
    ways = goers_by_count(trips)
    numbers = least_numbers(trips, wishes, ways)
    table = tuple([(count, numbers[count]) for count in sorted(numbers)])
    return ("least", least_day(trips, wishes, ways, numbers), table)


def least_price(plan, journeys, wishes):
    """The least price of a day that can be gone."""
    trips = wishing_trips(plan, journeys, wishes)
    return least_numbers(trips, wishes, goers_by_count(trips))[zeros(trips)]


def fits_line(trips, thing):
    """Whether any value is a pair (count, number)."""
    return is_tuple_of(thing, 2) and fits_count(trips, thing[0]) and is_integer(thing[1])


def fits_table(trips, thing):
    """Whether any value is a tuple of pairs (count, number), ascending by the counts, none of them twice."""
    if not are_items(thing, lambda item: fits_line(trips, item)):
        return False
    counts = [count for count, _ in thing]
    return counts == sorted(set(counts))


def is_low_enough(trips, wishes, numbers, count):
    """Whether the number at a count is 0 at home, and elsewhere at most what each going from there leads to."""
    if list(count) == trips.lengths:
        return numbers[count] == 0
    for at in goers(trips, count):
        if gone_on(count, at) not in numbers:
            return False
        if numbers[count] > number_after(trips, wishes, numbers, count, at):
            return False
    return True


def fits_paper(trips, wishes, thing):
    """Whether any value is a paper of the least price."""
    if not is_tuple_of(thing, 3) or thing[0] != "least":
        return False
    _, day, table = thing
    if not fits_day(trips, day) or not is_gone(trips, day) or not fits_table(trips, table):
        return False
    numbers = {count: number for count, number in table}
    if numbers.get(zeros(trips)) != price_of(trips, wishes, day):
        return False
    return all([is_low_enough(trips, wishes, numbers, count) for count, _ in table])


def days_hold(plan, journeys, wishes, thing):
    """Whether any value is a paper of the least price."""
    return fits_paper(wishing_trips(plan, journeys, wishes), wishes, thing)
