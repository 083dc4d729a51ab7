"""The rules of parts 6, 7 and 8 written once more, close to the document's words, to compare the program with."""

import itertools

from tests import oracle


def needed(plan, route):
    """The set of the stretches that a route needs."""
    return {step[0] for step in route[1] + oracle.overlap(plan, route[2])}


def lies(plan, route):
    """The pairs (points, side) that a route needs, ascending."""
    kinds = dict(plan[0])
    return sorted(
        (name, "right" if 2 in (one, other) else "left") for name, one, other in route[1] if kinds[name] == "points"
    )


def sweeping(plan, route):
    """The row of sweeping."""
    row = [signal[1][0] for signal in plan[3] if signal[0] == route[0]]
    for step in route[1]:
        row.append(step[0])
    if route[2] not in dict(plan[2]):
        row.pop()
    return row


def state(journeys, count, at):
    """Where a train is by a count."""
    return {0: "outside", len(journeys[at][1]): "home"}.get(count[at], "standing")


def held(plan, journeys, count, at):
    """The set of what a train holds."""
    if state(journeys, count, at) != "standing":
        return set()
    route = journeys[at][1][count[at] - 1]
    return {route[1][-1][0]} | {step[0] for step in oracle.overlap(plan, route[2])}


def wanted(plan, journeys, count, at):
    """The set of what a train wants."""
    return set().union(*[needed(plan, route) for route in journeys[at][1][count[at]:]])


def is_order(plan, journeys, count, trains):
    """Whether a row of names is an order."""
    names = [name for name, _ in journeys]
    if sorted(trains) != sorted(name for at, name in enumerate(names) if state(journeys, count, at) != "home"):
        return False
    for one, other in itertools.combinations([names.index(name) for name in trains], 2):
        if wanted(plan, journeys, count, one) & held(plan, journeys, count, other):
            return False
    return True


def is_knot(plan, journeys, count, trains):
    """Whether a row of names is a knot."""
    names = [name for name, _ in journeys]
    if len(trains) < 2 or list(trains) != sorted(set(trains)) or not set(trains) <= set(names):
        return False
    places = [names.index(name) for name in trains]
    if any(state(journeys, count, at) != "standing" for at in places):
        return False
    return all(
        any(wanted(plan, journeys, count, at) & held(plan, journeys, count, other) for other in places if other != at)
        for at in places
    )


def orders(plan, journeys, count):
    """All orders of a count."""
    away = [name for at, (name, _) in enumerate(journeys) if state(journeys, count, at) != "home"]
    return [row for row in itertools.permutations(away) if is_order(plan, journeys, count, row)]


def knots(plan, journeys, count):
    """All knots of a count."""
    names = sorted(name for name, _ in journeys)
    rows = [row for many in range(2, len(names) + 1) for row in itertools.combinations(names, many)]
    return [row for row in rows if is_knot(plan, journeys, count, row)]


def gone(count, at, step=1):
    """The count with one route more, or less, of a train."""
    return count[:at] + (count[at] + step,) + count[at + 1:]


def going(plan, journeys, count, at):
    """All reasons for which a train may go or may not."""
    if state(journeys, count, at) == "home":
        return [("home",)]
    found = [
        ("held", stretch, journeys[other][0])
        for stretch in sorted(needed(plan, journeys[at][1][count[at]])) for other in range(len(journeys))
        if other != at and stretch in held(plan, journeys, count, other)
    ]
    after = gone(count, at)
    if found:
        return found
    found = [("knot", row) for row in knots(plan, journeys, after)]
    return found or [("go", row) for row in orders(plan, journeys, after)]


class Box:
    """A box whose book is taken apart: locks by stretch, works by train."""

    def __init__(self, plan, journeys, book):
        self.plan = plan
        self.journeys = journeys
        self.names = [name for name, _ in journeys]
        self.number = book[0]
        self.count = dict(zip(self.names, book[1]))
        self.locks = {
            stretch: self.names[lock - 1] if lock else None for (stretch, _), lock in zip(plan[0], book[2])
        }
        self.works = dict(zip(self.names, book[3]))
        self.rows = []

    def book(self):
        """The book, put together again."""
        locks = tuple(self.names.index(train) + 1 if train else 0 for train in self.locks.values())
        return (self.number, tuple(self.count.values()), locks, tuple(self.works.values()))

    def new(self):
        """A new number."""
        self.number += 1
        return self.number

    def counts(self):
        """The count."""
        return tuple(self.count.values())

    def row(self, word, train):
        """Writes a row."""
        self.rows.append(("row", (word, train)))

    def under_way(self, train):
        """The route under way of a train."""
        return dict(self.journeys)[train][self.count[train] - 1]

    def outside_ahead(self, train):
        """The trains ahead of one that is outside in the line of its gate."""
        gate = dict(self.journeys)[train][0][0]
        ahead = self.names[:self.names.index(train)] if self.count[train] == 0 else []
        return [other for other in ahead if self.count[other] == 0 and dict(self.journeys)[other][0][0] == gate]

    def refusals(self, order):
        """All right reasons to refuse an order; none if it is not refused."""
        word, train = order
        at = self.names.index(train)
        work = self.works[train]
        if word == "go":
            if self.count[train] == len(dict(self.journeys)[train]):
                return [("home",)]
            if work:
                return [("under way", train)]
        elif not work:
            return [("standing", train)]
        elif work[0] == "sweep":
            return [("gone", train)]
        for other in self.names:
            if self.works[other] and self.works[other][0] == "stop":
                return [("stopping", other)]
        if word == "go":
            for other in self.outside_ahead(train):
                return [("line", other)]
            for stretch in sorted(needed(self.plan, dict(self.journeys)[train][self.count[train]])):
                if self.locks[stretch] not in (None, train):
                    return [("locked", stretch, self.locks[stretch])]
        after = gone(self.counts(), at, 1 if word == "go" else -1)
        return [("knot", row) for row in knots(self.plan, self.journeys, after)]

    def write(self, word, train):
        """Writes a row and does what it tells."""
        self.row(word, train)
        work = self.works[train]
        if word == "go":
            self.count[train] += 1
            for stretch in needed(self.plan, self.under_way(train)):
                self.locks[stretch] = train
            wishes = lies(self.plan, self.under_way(train))
            self.works[train] = ("points", tuple(self.new() for _ in wishes), tuple(False for _ in wishes))
        elif word == "open":
            self.works[train] = ("open", self.new())
        elif word == "stop":
            self.works[train] = ("stop", self.new(), work[1])
        elif word == "undone":
            self.count[train] -= 1
            kept = held(self.plan, self.journeys, self.counts(), self.names.index(train))
            for stretch in self.locks:
                if self.locks[stretch] == train and stretch not in kept:
                    self.locks[stretch] = None
            self.works[train] = ()
        else:
            row = sweeping(self.plan, self.under_way(train))
            place = 0
            if word == "free":
                self.locks[row[work[1]]] = None
                place = work[1] + 1
            self.works[train] = ("sweep", place, self.new()) if place < len(row) else ()

    def letters(self, train):
        """The letters of a train's work."""
        work = self.works[train]
        if not work:
            return []
        route = self.under_way(train)
        if work[0] == "points":
            wishes = lies(self.plan, route)
            return [
                ("throw", wishes[at][0], work[1][at], wishes[at][1]) for at in range(len(wishes)) if not work[2][at]
            ]
        if work[0] == "sweep":
            return [("look", sweeping(self.plan, route)[work[1]], work[2])]
        return [(work[0], route[0], work[1])]

    def result(self, trains):
        """The pair (book, deeds), with the letters of these trains."""
        letters = [("send", letter) for train in trains for letter in self.letters(train)]
        return (self.book(), tuple(self.rows + letters))

    def order(self, order):
        """The pair after an order that is not refused."""
        word, train = order
        if word == "go":
            self.write("go", train)
            if not self.works[train][1]:
                self.write("open", train)
        elif self.works[train][0] == "points":
            self.write("undone", train)
        else:
            self.write("stop", train)
        return self.result([train])

    def tick(self):
        """The pair after a tick."""
        for train in self.names:
            if self.works[train] and self.works[train][0] == "points" and False not in self.works[train][2]:
                self.write("open", train)
        return self.result(self.names)

    def told(self, answer):
        """The pair after an answer."""
        for train in self.names:
            work = self.works[train]
            if not work:
                continue
            if work[0] == "points" and answer[0] == "points":
                self.lie_told(train, answer)
            elif work[0] in ("open", "stop") and answer[:2] == ("signal", self.under_way(train)[0]):
                opening = work[2] if work[0] == "stop" else work[1]
                if answer[3] == opening and answer[4]:
                    self.write("sweep", train)
                elif work[0] == "stop" and answer[2] >= work[1]:
                    self.write("undone", train)
            elif work[0] == "sweep" and answer[0] == "seen":
                place = sweeping(self.plan, self.under_way(train))[work[1]]
                if answer[1:] == (place, work[2], True):
                    self.write("free", train)
            if self.rows:
                return self.result([train])
        return self.result([])

    def lie_told(self, train, answer):
        """Notes an answer of points for a work "points"."""
        _, numbers, done = self.works[train]
        wishes = lies(self.plan, self.under_way(train))
        now = list(done)
        for at, (name, side) in enumerate(wishes):
            if name == answer[1] and side == answer[3] and answer[2] >= numbers[at]:
                now[at] = True
        self.works[train] = ("points", numbers, tuple(now))
        if tuple(now) != done and all(now):
            self.write("open", train)


def begun(plan, journeys):
    """The book at the beginning."""
    return (0, tuple(0 for _ in journeys), tuple(0 for _ in plan[0]), tuple(() for _ in journeys))


def replayed(plan, journeys, rows):
    """The book after a log."""
    box = Box(plan, journeys, begun(plan, journeys))
    for word, train in rows:
        box.write(word, train)
    return box.book()


def row_fits(plan, journeys, book, word, train):
    """Whether a row can be written next."""
    box = Box(plan, journeys, book)
    work = box.works[train][0] if box.works[train] else None
    may_undo = not box.refusals(("undo", train))
    return {
        "go": not box.refusals(("go", train)),
        "open": work == "points",
        "stop": work == "open" and may_undo,
        "sweep": work in ("open", "stop"),
        "free": work == "sweep",
        "undone": work == "stop" or (work == "points" and may_undo),
    }[word]


def is_book(plan, journeys, thing):
    """Whether a value that has the right kinds and lengths of parts is a book."""
    number, count, locks, works = thing
    if number < 0 or any(not 0 <= gone <= len(row) for gone, (_, row) in zip(count, journeys)):
        return False
    if any(not 0 <= lock <= len(journeys) for lock in locks):
        return False
    for at, work in enumerate(works):
        mine = {stretch for (stretch, _), lock in zip(plan[0], locks) if lock == at + 1}
        if not held(plan, journeys, count, at) <= mine:
            return False
        if not work:
            continue
        if count[at] == 0:
            return False
        route = journeys[at][1][count[at] - 1]
        row = sweeping(plan, route)
        numbers = {"points": work[1], "open": work[1:], "stop": work[1:], "sweep": work[2:]}[work[0]]
        if any(not 1 <= used <= number for used in numbers):
            return False
        if work[0] == "sweep":
            if not 0 <= work[1] < len(row) or not set(row[work[1]:]) <= mine:
                return False
        elif not (needed(plan, route) | set(row)) <= mine:
            return False
        if work[0] == "points" and (len(work[1]), len(work[2])) != (len(lies(plan, route)),) * 2:
            return False
    return True
