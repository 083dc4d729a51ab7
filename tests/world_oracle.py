"""The rules of parts 9 and 10 written once more, over the functions of parts 4 to 7, to compare worlds with."""

from clearline.box import begun_book, ordered, ticked, told
from clearline.field import begun_field, hears, lies_now, passes, settles, shows_of
from clearline.log import come_up, letters_of, rows_of
from clearline.tracks import moved, moves, taken
from tests import oracle

LETTERS = ("open", "stop", "throw", "look")


class OtherWorld:
    """A world whose state is open to everyone."""

    def __init__(self, plan, journeys, lies):
        self.plan, self.journeys = plan, journeys
        self.names = tuple(name for name, _ in journeys)
        self.field = begun_field(plan, lies)
        self.trains, self.entered, self.left = (), [], []
        self.net, self.log = [], []
        self.book = begun_book(plan, journeys)

    def standing(self):
        """The standing."""
        return (self.trains, lies_now(self.plan, self.field), shows_of(self.plan, self.field))

    def home(self):
        """The trains that have gone out, in the journeys' order."""
        return tuple(name for name in self.names if name in self.left)

    def told(self):
        """All that a world tells, but for its accident."""
        return (self.standing(), self.field, tuple(self.net), tuple(self.log), self.book, self.home())

    def may_move(self, move):
        """Whether a possible move can be done: in only of the first train in the line."""
        if move[0] != "in":
            return True
        line = [name for name, row in self.journeys if row[0][0] == move[2] and name not in self.entered]
        return line[:1] == [move[1]]

    def orders(self):
        """The orders as deeds."""
        found = []
        for name in self.names:
            found.append(("order", ("go", name)))
            found.append(("order", ("undo", name)))
        return found

    def deeds(self):
        """The list of all deeds."""
        found = []
        few = range(len(self.net))[:12]
        if self.book is not None:
            found += self.orders()
            found += [("tick",), ("fall",)]
        else:
            found.append(("up",))
        found += [("bring", at) for at in few] + [("double", at) for at in few] + [("lose", at) for at in few]
        if self.book is not None:
            cuttable = self.orders() + [("tick",)]
            cuttable += [("bring", at) for at in few if self.net[at][0] not in LETTERS]
            for deed in cuttable:
                found += [("cut", 0, deed), ("cut", 1, deed), ("cut", 2, deed), ("cut", 3, deed)]
        found += [("settle", name) for name, lie in lies_now(self.plan, self.field) if lie == "between"]
        found += [move for move in moves(self.plan, self.standing(), self.names) if self.may_move(move)]
        return tuple(found)

    def box_does(self, function, *passed, many=None):
        """Lets the box do something; with many, it falls behind so many rows and letters."""
        book, deeds = function(self.plan, self.journeys, self.book, *passed)
        deeds = () if deeds[:1] and deeds[0][0] == "refused" else deeds[:many]
        self.log += rows_of(deeds)
        self.net += letters_of(deeds)
        self.book = book if many is None else None

    def deliver(self, item, many=None):
        """Brings an item of the net."""
        if item[0] in LETTERS:
            self.field, answer = hears(self.plan, self.field, taken(self.plan, self.standing()), item)
            self.net.append(answer)
        elif self.book is not None:
            self.box_does(told, item, many=many)

    def do(self, deed, many=None):
        """Performs a deed that can be done and ends in no accident."""
        word = deed[0]
        if word == "order":
            self.box_does(ordered, deed[1], many=many)
        elif word == "tick":
            self.box_does(ticked, many=many)
        elif word == "fall":
            self.book = None
        elif word == "up":
            self.book = come_up(self.plan, self.journeys, tuple(self.log))
        elif word == "bring":
            self.deliver(self.net.pop(deed[1]), many)
        elif word == "double":
            self.deliver(self.net[deed[1]])
        elif word == "lose":
            del self.net[deed[1]]
        elif word == "cut":
            self.do(deed[2], deed[1])
        elif word == "settle":
            self.field = settles(self.plan, self.field, deed[1])
        else:
            self.move(deed)

    def move(self, move):
        """Makes a move."""
        standing = self.standing()
        self.trains = moved(self.plan, standing, move)[0]
        passed = None
        if move[0] == "in":
            self.entered.append(move[1])
            passed = move[2]
        elif move[0] == "on":
            head = {train[0]: train[1][0] for train in standing[0]}[move[1]]
            passed = oracle.marker(self.plan, oracle.goal(head))
        elif move[0] == "out":
            self.left.append(move[1])
        if passed is not None:
            self.field, answer = passes(self.plan, self.field, passed)
            self.net.append(answer)

    def empty(self):
        """Brings all that is in the net."""
        while self.net:
            self.do(("bring", 0))

    def calm_round(self):
        """A calm round."""
        if self.book is None:
            self.do(("up",))
        for name in self.names:
            if name not in self.home():
                self.do(("order", ("go", name)))
        self.empty()
        for name, lie in lies_now(self.plan, self.field):
            if lie == "between":
                self.do(("settle", name))
        self.do(("tick",))
        self.empty()
        for name in self.names:
            for words in (("back",), ("in", "on", "tail", "out")):
                while True:
                    able = [deed for deed in self.deeds() if deed[0] in words and deed[1] == name]
                    if not able:
                        break
                    self.do(able[0])
        self.empty()
        self.do(("tick",))
        self.empty()

    def counted(self):
        """The routes that are not included by the count of the book after the log, plus the works."""
        _, count, _, works = come_up(self.plan, self.journeys, tuple(self.log))
        left = sum(len(row) - gone for (_, row), gone in zip(self.journeys, count))
        return left + sum(1 for work in works if work)
