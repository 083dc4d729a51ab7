"""[6.4] Why it is safe: books, elements and trains side by side, with letters that are lost, doubled and late."""

import random
import unittest

from clearline.box import begun_book, ordered, room_of, ticked, told
from clearline.field import begun_field, hears, lies_now, passes, settles, shows_of
from clearline.journeys import is_homely
from clearline.log import come_up, letters_of, rows_of
from clearline.routes import lies_of
from clearline.tracks import moved, moves, taken
from tests import oracle
from tests.trains import SAMPLES, random_samples

LETTERS = ("open", "stop", "throw", "look")


class Sides:
    """A box, elements and trains, and the letters and answers between them, in the hands of chance."""

    def __init__(self, plan, journeys, chance):
        self.plan, self.journeys, self.chance = plan, journeys, chance
        self.points = [name for name, kind in plan[0] if kind == "points"]
        self.starts = [item[0] for item in plan[2] + plan[3]]
        lies = tuple((name, chance.choice(("left", "right", "between"))) for name in self.points)
        self.field = begun_field(plan, lies)
        self.trains = ()
        self.outside = [(name, row[0][0]) for name, row in journeys]
        self.book = begun_book(plan, journeys)
        self.log, self.net = (), []

    def standing(self):
        """The standing."""
        return (self.trains, lies_now(self.plan, self.field), shows_of(self.plan, self.field))

    def box_does(self, function, *passed):
        """Lets the box do something, and sometimes fall in the midst of it and come up again."""
        book, deeds = function(self.plan, self.journeys, self.book, *passed)
        if deeds and deeds[0][0] == "refused":
            return
        if self.chance.random() < 0.05:
            deeds = deeds[:self.chance.randint(0, 3)]
            self.log = self.log + rows_of(deeds)
            book = come_up(self.plan, self.journeys, self.log)
        else:
            self.log = self.log + rows_of(deeds)
        self.net.extend(letters_of(deeds))
        self.book = book

    def carry(self):
        """Brings something that is on its way, no matter which, or loses it; sometimes it will come once more."""
        if not self.net:
            return
        at = self.chance.randrange(len(self.net))
        item = self.net[at] if self.chance.random() < 0.2 else self.net.pop(at)
        if self.chance.random() < 0.1:
            return
        if item[0] in LETTERS:
            self.field, answer = hears(self.plan, self.field, taken(self.plan, self.standing()), item)
            self.net.append(answer)
        else:
            self.box_does(told, item)

    def settle(self):
        """Some points settle."""
        if self.points:
            self.field = settles(self.plan, self.field, self.chance.choice(self.points))

    def possible_moves(self):
        """The moves that trains can make; of those outside only the first one at each gate comes in there."""
        standing = self.standing()
        names = tuple(name for name, _, _ in self.trains)
        gates = [gate for _, gate in self.outside]
        first = [pair for at, pair in enumerate(self.outside) if pair[1] not in gates[:at]]
        coming = [move for move in moves(self.plan, standing, tuple(name for name, _ in first)) if move[1:] in first]
        return coming + list(moves(self.plan, standing, names))

    def move(self):
        """A train moves; what it passes answers. Returns the accident, if there is one."""
        possible = self.possible_moves()
        if not possible:
            return None
        move = self.chance.choice(possible)
        standing = self.standing()
        after = moved(self.plan, standing, move)
        if after[0] in ("meet", "derailed"):
            return after
        self.trains = after[0]
        name = None
        if move[0] == "in":
            name = move[2]
            self.outside.remove(move[1:])
        elif move[0] == "on":
            cover = {train[0]: train[1] for train in standing[0]}[move[1]]
            name = oracle.marker(self.plan, oracle.goal(cover[0]))
        if name is not None:
            self.field, answer = passes(self.plan, self.field, name)
            self.net.append(answer)
        return None

    def go_on(self):
        """Does something; returns the accident, if there is one."""
        kind = self.chance.random()
        if kind < 0.2:
            self.box_does(ordered, (self.chance.choice(("go", "go", "go", "undo")), self.chance.choice(self.journeys)[0]))
        elif kind < 0.28:
            self.box_does(ticked)
        elif kind < 0.7:
            self.carry()
        elif kind < 0.76:
            self.settle()
        else:
            return self.move()
        return None


class SideBySideTest(unittest.TestCase):
    def assert_rooms(self, sides):
        """Each train stands in its room, and the rooms have no common stretch."""
        rooms = {name: set(room_of(sides.plan, sides.journeys, sides.book, name)) for name, _ in sides.journeys}
        for name, cover, _ in sides.trains:
            self.assertLessEqual({way[0] for way in cover}, rooms[name])
        self.assertEqual(sum(map(len, rooms.values())), len(set().union(*rooms.values())))

    def assert_signals(self, sides):
        """What shows go, or could be opened by a letter on its way, is where a route begins that is open or stopped."""
        works = dict(zip([name for name, _ in sides.journeys], sides.book[3]))
        count = dict(zip(works, sides.book[1]))
        routes = {name: row[count[name] - 1] for name, row in sides.journeys if works[name]}
        begun = {route[0] for name, route in routes.items() if works[name][0] in ("open", "stop")}
        last = {name: element[0] for name, element in zip(sides.starts, sides.field[0])}
        coming = {item[1] for item in sides.net if item[0] == "open" and item[2] > last[item[1]]}
        self.assertLessEqual(set(shows_of(sides.plan, sides.field)) | coming, begun)

    def assert_points(self, sides):
        """Points in the room of a train whose points are done lie as it needs, and no letter can throw them."""
        lies = dict(lies_now(sides.plan, sides.field))
        last = {name: element[0] for name, element in zip(sides.points, sides.field[1])}
        for (name, row), work, gone in zip(sides.journeys, sides.book[3], sides.book[1]):
            if work and work[0] in ("open", "stop", "sweep"):
                room = room_of(sides.plan, sides.journeys, sides.book, name)
                for points, side in lies_of(sides.plan, row[gone - 1]):
                    if points in room:
                        self.assertEqual(lies[points], side)
                        coming = [item for item in sides.net if item[:2] == ("throw", points) and item[2] > last[points]]
                        self.assertEqual(coming, [])

    def test_side_by_side(self):
        chance = random.Random(91)
        home, together = 0, 0
        for plan, journeys in [*SAMPLES[:11] * 3, *random_samples(40, 92)]:
            if not journeys:
                continue
            sides = Sides(plan, journeys, chance)
            for _ in range(150):
                self.assertIsNone(sides.go_on())
                self.assert_rooms(sides)
                self.assert_signals(sides)
                self.assert_points(sides)
                together = max(together, len(sides.trains))
            self.assertIs(is_homely(plan, journeys, sides.book[1]), True)
            home += len(journeys) - len(sides.outside) - len(sides.trains)
        self.assertGreater(home, 20)
        self.assertGreaterEqual(together, 3)

    def test_a_letter_of_an_earlier_route_comes_late(self):
        # The first route is taken back, the other one is granted; the late letter must not throw p under it.
        plan, journeys = SAMPLES[0][0], (("t", SAMPLES[0][1][0][1]), ("u", SAMPLES[1][1][1][1]))
        book = ordered(plan, journeys, begun_book(plan, journeys), ("go", "t"))[0]
        book = ordered(plan, journeys, book, ("undo", "t"))[0]
        book, deeds = ordered(plan, journeys, book, ("go", "u"))
        self.assertEqual(letters_of(deeds), (("throw", "p", 2, "left"), ("throw", "q", 3, "left")))
        field = begun_field(plan, (("p", "left"), ("q", "left")))
        # An answer to the late letter alone is none to the new one, though p lies right.
        field, answer = hears(plan, field, (), ("throw", "p", 1, "left"))
        self.assertEqual(told(plan, journeys, book, answer), (book, ()))
        field, answer = hears(plan, field, (), ("throw", "p", 2, "left"))
        self.assertEqual(told(plan, journeys, book, answer)[0][3][1], ("points", (2, 3), (True, False)))
        self.assertEqual(hears(plan, field, (), ("throw", "p", 1, "right"))[0], field)


if __name__ == "__main__":
    unittest.main()
