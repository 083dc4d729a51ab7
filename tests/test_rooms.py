"""[4.3] Trains that are held in their rooms never meet and never derail."""

import random
import unittest

from clearline.tracks import bare, is_safe, is_standing, moved, moves, taken
from tests import oracle
from tests.layouts import CROSS, FACES, LADDER, LINE, RING, TIPS, random_plans
from tests.samples import LOOP

NAMES = ("one", "three", "two")


class Rooms:
    """Trains that move by chance, but only within rooms that have no common stretch."""

    def __init__(self, plan, chance):
        self.plan = plan
        self.chance = chance
        self.points = [name for name, kind in plan[0] if kind == "points"]
        self.starts = [item[0] for item in plan[2] + plan[3]]
        self.standing = bare(plan, self.new_lies())
        self.rooms = self.new_rooms()

    def new_rooms(self):
        """Other rooms, in which the trains stand: what is under a train stays in its room, the rest is dealt out."""
        rooms = {name: set() for name in NAMES}
        for name, cover, _ in self.standing[0]:
            rooms[name].update(way[0] for way in cover)
        for stretch, _ in self.plan[0]:
            if not any(stretch in room for room in rooms.values()):
                rooms[self.chance.choice(NAMES)].add(stretch)
        return rooms

    def new_lies(self):
        """Other lies: points may turn at any moment, even under a train."""
        return tuple((name, self.chance.choice(("left", "right", "between"))) for name in self.points)

    def new_shows(self):
        """Other shows: at some moments most show go, at others few."""
        most = self.chance.random()
        return tuple(sorted(name for name in self.starts if self.chance.random() < most))

    def next_end(self, move):
        """The end where the way begins onto which a move forward or in leads; None for other moves."""
        if move[0] == "in":
            return dict(self.plan[2])[move[2]]
        if move[0] in ("on", "slip"):
            cover = {train[0]: train[1] for train in self.standing[0]}[move[1]]
            return oracle.joined(self.plan, oracle.goal(cover[0]))
        return None

    def may_do(self, move):
        """Whether a move keeps its train in its room, and meets points there that lie for it."""
        end = self.next_end(move)
        if end is None:
            return True
        lie = dict(self.standing[1]).get(end[0])
        fitting = {0: ("left", "right"), 1: ("left",), 2: ("right",)}
        return end[0] in self.rooms[move[1]] and (lie is None or lie in fitting[end[1]])

    def go_on(self):
        """Turns points and signals, then does a move by chance; returns its word, or None if all must wait."""
        self.standing = (self.standing[0], self.new_lies(), self.new_shows())
        allowed = [move for move in moves(self.plan, self.standing, NAMES) if self.may_do(move)]
        if not allowed:
            self.rooms = self.new_rooms()
            return None
        move = self.chance.choice(allowed)
        self.standing = moved(self.plan, self.standing, move)
        return move[0]


class RoomsTest(unittest.TestCase):
    def assert_kept(self, rooms, word):
        self.assertIs(is_standing(rooms.plan, rooms.standing), True, (rooms.plan, rooms.standing, word))
        self.assertIs(is_safe(rooms.plan, rooms.standing), True)
        covers = {name: {way[0] for way in cover} for name, cover, _ in rooms.standing[0]}
        for name, cover in covers.items():
            self.assertLessEqual(cover, rooms.rooms[name])
        self.assertEqual(sum(len(cover) for cover in covers.values()), len(taken(rooms.plan, rooms.standing)))

    def test_rows_of_moves(self):
        chance = random.Random(11)
        words, together = [], 0
        for plan in [LOOP, LINE, CROSS, FACES, LADDER, RING, TIPS] * 8 + random_plans(30, 12):
            rooms = Rooms(plan, chance)
            for _ in range(30):
                words.append(rooms.go_on())
                self.assert_kept(rooms, words[-1])
                together = max(together, len(rooms.standing[0]))
        for word in ("in", "on", "tail", "out", "slip", "back"):
            self.assertGreater(words.count(word), 30, word)
        self.assertGreaterEqual(together, 2)

    def test_a_move_out_of_the_room_can_end_badly(self):
        # What [4.3] asks for is needed: each of the two conditions alone is broken here.
        trains = (("one", (("w", 0, 1),), False), ("two", (("p", 1, 0),), False))
        standing = (trains, (("p", "left"), ("q", "left")), ())
        self.assertEqual(moved(LOOP, standing, ("on", "one")), ("meet", "p"))
        standing = (trains[:1], (("p", "between"), ("q", "left")), ())
        self.assertEqual(moved(LOOP, standing, ("on", "one")), ("derailed", "p"))


if __name__ == "__main__":
    unittest.main()
