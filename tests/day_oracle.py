"""The rules of part 11 written once more, and wishes about the journeys BOTH."""

import itertools

from tests import box_oracle

FIRST = ("two", 1, "one", 1)
AGAINST = ("one", 1, "two", 1)


def all_days(journeys):
    """All days of journeys."""
    trains = [train for train, row in journeys for _ in row]
    return sorted(set(itertools.permutations(trains)))


def gone(plan, journeys, day):
    """Whether a day can be gone."""
    count = (0,) * len(journeys)
    for train in day:
        at = [name for name, _ in journeys].index(train)
        if box_oracle.going(plan, journeys, count, at)[0][0] != "go":
            return False
        count = box_oracle.gone(count, at)
    return True


def broken(day, wish):
    """Whether a day breaks a wish."""
    one, first, other, second = wish
    place = [at for at, train in enumerate(day) if train == one][first - 1]
    return not place < [at for at, train in enumerate(day) if train == other][second - 1]


def random_wishes(chance, journeys, most=12):
    """Some wishes, as the source of chance has it."""
    if len(journeys) < 2:
        return ()
    found = []
    for _ in range(chance.randint(0, most)):
        (one, row), (other, later) = chance.sample(list(journeys), 2)
        found.append((one, chance.randint(1, len(row)), other, chance.randint(1, len(later))))
    return tuple(found)
