"""Whole worlds: trains, elements, a net that carries letters, and the box, to which anything may happen."""

from clearline.books import new_book
from clearline.box import after_answer, after_order, after_tick
from clearline.errors import BadChoices, BadDeed
from clearline.field import begun_in, heard_in, lies_in, passed_in, settled_in, shows_in
from clearline.forms import are_items, is_integer, is_same
from clearline.lies import demand_lies
from clearline.log import book_after
from clearline.tracks import after_move, covered, is_accident, moves_of, way_forward
from clearline.trips import trips_of

ANSWERS = ("signal", "points", "seen")
# Deeds take only the first items of a long net.
MOST_ITEMS = 12
CUTS = (0, 1, 2, 3)


def is_answer_item(item):
    """Whether an item of a net is an answer."""
    return item[0] in ANSWERS


class World:
    """A world in which an adversary performs deeds, one at a time."""

    def __init__(self, plan, journeys, lies):
        trips = trips_of(plan, journeys)
        demand_lies(trips.layout, lies)
        self.plan = plan
        self.journeys = journeys
        self._trips = trips
        self._field = begun_in(trips.layout, lies)
        self._trains = ()
        self._entered = ()
        self._left = ()
        self._net = ()
        self._rows = ()
        self._book = new_book(trips)
        self._accident = None

    def deeds(self):
        """The tuple of all deeds that can be done, in the document's order."""
        if self._accident is not None:
            return ()
        items = list(range(min(len(self._net), MOST_ITEMS)))
        carried = [(word, at) for word in ("bring", "double", "lose") for at in items]
        lies = lies_in(self._trips.layout, self._field)
        settling = [("settle", name) for name, lie in lies if lie == "between"]
        return tuple(self._box_deeds() + carried + self._cut_deeds(items) + settling + self._moves())

    def do(self, deed):
        """Performs a deed; returns None, or the accident."""
        if not any([is_same(deed, listed) for listed in self.deeds()]):
            raise BadDeed(deed)
        self._perform(deed)
        return self._accident

    def run(self, choices):
        """Performs the deeds that the integers choose, until an accident; returns the tuple of those performed."""
        if not are_items(choices, is_integer):
            raise BadChoices(choices)
        done = []
        for choice in choices:
            deeds = self.deeds()
            if deeds:
                deed = deeds[choice % len(deeds)]
                self._perform(deed)
                done.append(deed)
        return tuple(done)

    def standing(self):
        """Where the trains are, how the points lie and what shows go."""
        layout = self._trips.layout
        return (self._trains, lies_in(layout, self._field), shows_in(layout, self._field))

    def field(self):
        """The elements."""
        return self._field

    def net(self):
        """The tuple of the letters and answers on their way, in the order in which they were sent."""
        return self._net

    def log(self):
        """The tuple of the rows that the box has written."""
        return self._rows

    def book(self):
        """The book of the box, or None while it is down."""
        return self._book

    def accident(self):
        """The accident that has happened, or None."""
        return self._accident

    def home(self):
        """The tuple of the trains that have gone out at the ends of their journeys, in the journeys' order."""
        return tuple([train for train in self._trips.trains if train in self._left])

    def _orders(self):
        """The list of the orders as deeds."""
        return [("order", (word, train)) for train in self._trips.trains for word in ("go", "undo")]

    def _box_deeds(self):
        """The list of what can be done with the box alone."""
        if self._book is None:
            return [("up",)]
        return self._orders() + [("tick",), ("fall",)]

    def _cut_deeds(self, items):
        """The list of what can be cut by a fall, the net having these items."""
        if self._book is None:
            return []
        brought = [("bring", at) for at in items if is_answer_item(self._net[at])]
        return [("cut", many, deed) for deed in self._orders() + [("tick",)] + brought for many in CUTS]

    def _first_in_line(self, gate):
        """The first train that has not yet come in of those whose journeys begin at a gate, or None."""
        for train, row in zip(self._trips.trains, self._trips.routes):
            if train not in self._entered and row[0][0] == gate:
                return train
        return None

    def _moves(self):
        """The list of the moves that trains can make."""
        standing = self.standing()
        found = [move for train in self._trips.trains for move in moves_of(self._trips.layout, standing, train)]
        return [move for move in found if move[0] != "in" or self._first_in_line(move[2]) == move[1]]

    def _perform(self, deed):
        """Performs one of the deeds that can be done."""
        word = deed[0]
        if word == "fall":
            self._book = None
        elif word == "up":
            self._book = book_after(self._trips, self._rows)
        elif word == "cut":
            self._cut(deed[1], deed[2])
        elif word in ("order", "tick"):
            self._follow(deed)
        elif word in ("bring", "double", "lose"):
            self._carry(word, deed[1])
        elif word == "settle":
            self._field = settled_in(self._trips.layout, self._field, deed[1])
        else:
            self._move(deed)

    def _outcome(self, cause):
        """The pair (book, deeds) after an order, a tick or an answer has reached the box."""
        if cause[0] == "order":
            return after_order(self._trips, self._book, cause[1])
        if cause[0] == "tick":
            return after_tick(self._trips, self._book)
        return after_answer(self._trips, self._book, cause)

    def _write(self, deeds):
        """Writes rows and sends letters; a refusal is neither."""
        for word, item in deeds:
            if word == "row":
                self._rows = self._rows + (item,)
            elif word == "send":
                self._net = self._net + (item,)

    def _follow(self, cause):
        """Does what follows when an order, a tick or an answer reaches the box."""
        book, deeds = self._outcome(cause)
        self._write(deeds)
        self._book = book

    def _take(self, at):
        """Removes an item of the net; returns it."""
        item = self._net[at]
        self._net = self._net[:at] + self._net[at + 1:]
        return item

    def _cut(self, many, deed):
        """Does so many of the rows and letters that follow from a deed; then the box falls."""
        cause = self._take(deed[1]) if deed[0] == "bring" else deed
        _, deeds = self._outcome(cause)
        self._write(deeds[:many])
        self._book = None

    def _carry(self, word, at):
        """Brings, doubles or loses an item of the net."""
        item = self._net[at] if word == "double" else self._take(at)
        if word != "lose":
            self._deliver(item)

    def _deliver(self, item):
        """Lets a letter reach its element, or an answer the box, which hears nothing while it is down."""
        if not is_answer_item(item):
            stretches = covered(self.standing())
            self._field, answer = heard_in(self._trips.layout, self._field, stretches, item)
            self._net = self._net + (answer,)
        elif self._book is not None:
            self._follow(item)

    def _move(self, move):
        """Makes a move of a train; whatever is passed answers."""
        layout, standing = self._trips.layout, self.standing()
        after = after_move(layout, standing, move)
        if is_accident(after):
            self._accident = after
            return
        word, train = move[:2]
        self._trains = after[0]
        if word == "in":
            self._entered = self._entered + (train,)
        elif word == "out":
            self._left = self._left + (train,)
        if word in ("in", "on"):
            self._pass(way_forward(layout, standing, move)[0])

    def _pass(self, name):
        """Lets the element of a gate or signal, if there is one, note that a train has passed, and answer."""
        if name is not None:
            self._field, answer = passed_in(self._trips.layout, self._field, name)
            self._net = self._net + (answer,)


def judge_run(plan, journeys, lies, deeds):
    """What an observer of the track sees of deeds in a new world: ("safe", standing), or where the accident was."""
    world = World(plan, journeys, lies)
    if not isinstance(deeds, tuple):
        raise BadDeed(deeds)
    found = None
    for position, deed in enumerate(deeds):
        accident = world.do(deed)
        if accident is not None:
            found = ("accident", position, accident)
    return ("safe", world.standing()) if found is None else found
