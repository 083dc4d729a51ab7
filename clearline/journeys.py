"""Journeys, and how all trains come home."""

from clearline.errors import BadCount, BadTrain
from clearline.forms import is_one_of
from clearline.homely import certificate, fits_certificate, fits_going, going_reason, may_go
from clearline.layout import layout_of
from clearline.trips import fits_count, fits_journeys, trips_of


def are_journeys(plan, thing):
    """Whether any value is journeys in the plan."""
    return fits_journeys(layout_of(plan), thing)


def counted_trips(plan, journeys, count):
    """The trips of journeys; raises the errors of wrong ones, and of a value that is no count of them."""
    trips = trips_of(plan, journeys)
    if not fits_count(trips, count):
        raise BadCount(count)
    return trips


def demand_train(trips, train):
    """Raises the error of a value that is not the name of a train of the journeys."""
    if not is_one_of(train, trips.trains):
        raise BadTrain(train)


def held(plan, journeys, count):
    """The tuple with the ascending tuple of the stretches that each train holds."""
    trips = counted_trips(plan, journeys, count)
    return tuple([stretches[gone] for stretches, gone in zip(trips.held, count)])


def wanted(plan, journeys, count):
    """The tuple with the ascending tuple of the stretches that each train wants."""
    trips = counted_trips(plan, journeys, count)
    return tuple([stretches[gone] for stretches, gone in zip(trips.wanted, count)])


def judge_count(plan, journeys, count):
    """A certificate for a count: ("order", trains), or ("knot", trains)."""
    return certificate(counted_trips(plan, journeys, count), count)


def count_holds(plan, journeys, count, thing):
    """Whether any value is a certificate for a count."""
    return fits_certificate(counted_trips(plan, journeys, count), count, thing)


def is_homely(plan, journeys, count):
    """Whether all trains can come home from a count, one after the other."""
    return certificate(counted_trips(plan, journeys, count), count)[0] == "order"


def judge_going(plan, journeys, count, train):
    """A reason why a train may go by a count, or why it may not."""
    trips = counted_trips(plan, journeys, count)
    demand_train(trips, train)
    return going_reason(trips, count, trips.trains.index(train))


def going_holds(plan, journeys, count, train, thing):
    """Whether any value is a reason why a train may go by a count, or why it may not."""
    trips = counted_trips(plan, journeys, count)
    demand_train(trips, train)
    return fits_going(trips, count, trips.trains.index(train), thing)


def going_trains(plan, journeys, count):
    """The tuple of the trains that may go by a count, in the order of the journeys."""
    trips = counted_trips(plan, journeys, count)
    return tuple([train for at, train in enumerate(trips.trains) if may_go(trips, count, at)])
