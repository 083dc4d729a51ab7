"""Orders in which trains can come home, knots in which they cannot, and who may go."""

from clearline.forms import are_ascending, are_items, is_one_of, is_tuple_of
from clearline.items import exchanged


def trains_away(trips, count):
    """The list of the positions of the trains that are not home."""
    return [at for at, length in enumerate(trips.lengths) if count[at] < length]


def trains_standing(trips, count):
    """The list of the positions of the trains that are neither outside nor home."""
    return [at for at in trains_away(trips, count) if count[at] > 0]


def names_of(trips, positions):
    """The list of the names of the trains at these positions."""
    return [trips.trains[at] for at in positions]


def is_wanted_from(trips, count, one, other):
    """Whether the train at the position one wants a stretch that the one at other holds."""
    theirs = trips.held[other][count[other]]
    return any([name in theirs for name in trips.wanted[one][count[one]]])


def is_kept_by(trips, count, at, others):
    """Whether a train wants a stretch that one of the others holds; the train itself does not count."""
    return any([is_wanted_from(trips, count, at, other) for other in others if other != at])


def certificate(trips, count):
    """The pair ("order", trains), or ("knot", trains) if there is no order."""
    left, found = trains_away(trips, count), []
    while left:
        free = [at for at in left if not is_kept_by(trips, count, at, left)]
        if not free:
            # Trains that are outside hold nothing, so what each one is kept by stands.
            knot = [at for at in left if count[at] > 0]
            return ("knot", tuple(sorted(names_of(trips, knot))))
        found.extend(free)
        left = [at for at in left if at not in free]
    return ("order", tuple(names_of(trips, found)))


def fits_order(trips, count, thing):
    """Whether any value is an order of a count."""
    names = names_of(trips, trains_away(trips, count))
    if not are_items(thing, lambda item: is_one_of(item, names)) or sorted(thing) != sorted(names):
        return False
    row = [trips.trains.index(name) for name in thing]
    return not any([is_kept_by(trips, count, at, row[place + 1:]) for place, at in enumerate(row)])


def fits_knot(trips, count, thing):
    """Whether any value is a knot of a count."""
    if not are_ascending(thing, names_of(trips, trains_standing(trips, count))) or len(thing) < 2:
        return False
    group = [trips.trains.index(name) for name in thing]
    return all([is_kept_by(trips, count, at, group) for at in group])


def fits_certificate(trips, count, thing):
    """Whether any value is a certificate for a count."""
    if not is_tuple_of(thing, 2):
        return False
    word, trains = thing
    if word == "order":
        return fits_order(trips, count, trains)
    return word == "knot" and fits_knot(trips, count, trains)


def gone_on(count, at):
    """The count after this one, with the next route of the train at this position gone."""
    return exchanged(count, at, count[at] + 1)


def is_held_by(trips, count, stretch, other):
    """Whether the train at this position holds a stretch."""
    return stretch in trips.held[other][count[other]]


def in_the_way(trips, count, at):
    """The list of the pairs (stretch, train): what the next route of a train needs and which other one holds it."""
    others = [other for other in range(len(trips.trains)) if other != at]
    return [
        (name, trips.trains[other]) for name in trips.needs[at][count[at]] for other in others
        if is_held_by(trips, count, name, other)
    ]


def going_reason(trips, count, at):
    """Why the train at this position may go, or why it may not."""
    if count[at] == trips.lengths[at]:
        return ("home",)
    found = in_the_way(trips, count, at)
    if found:
        return ("held",) + found[0]
    word, trains = certificate(trips, gone_on(count, at))
    return ("go" if word == "order" else "knot", trains)


def may_go(trips, count, at):
    """Whether the train at this position may go."""
    return going_reason(trips, count, at)[0] == "go"


def fits_going(trips, count, at, thing):
    """Whether any value is a reason why the train at this position may go, or why it may not."""
    word = going_reason(trips, count, at)[0]
    if word == "home":
        return thing == ("home",)
    if word == "held":
        return is_tuple_of(thing, 3) and thing[0] == "held" and thing[1:] in in_the_way(trips, count, at)
    if not is_tuple_of(thing, 2) or thing[0] != word:
        return False
    after = gone_on(count, at)
    return fits_order(trips, after, thing[1]) if word == "go" else fits_knot(trips, after, thing[1])
