"""[4.2] Moves: moves and moved."""

import itertools
import random
import unittest

from clearline.errors import BadMove, BadNames, BadStanding
from clearline.plans import read_plan
from clearline.tracks import is_standing, moved, moves
from tests import oracle
from tests.layouts import CROSS, FACES, LINE, PLANS, SHORT, TIPS, random_plans, ways_of_plan
from tests.samples import ANY_VALUES, GOOD_NAMES, LOOP, WRONG_NAMES, raises, same_calls, wrong_kinds, wrong_lengths

POSITIONS = ("left", "right", "between")
WORDS = ("in", "on", "tail", "out", "slip", "back")
LEFT = (("p", "left"), ("q", "left"))
ON_A = ("t", (("a", 0, 1),), False)
ON_O_AND_A = ("t", (("o", 0, 1), ("a", 0, 1)), False)
SLIPPED = ("t", (("o", 0, 1), ("a", 0, 1)), True)
ON_B = ("t", (("b", 0, 1),), False)


def random_standing(chance, plan):
    """A standing of a plan, as the source of chance has it; it need not be safe."""
    trains = []
    for name in sorted(chance.sample(("a", "b1", "b10", "t0", "z"), chance.randint(0, 4))):
        cover = (chance.choice(ways_of_plan(plan)),)
        second = [way for way in ways_of_plan(plan) if oracle.joined(plan, oracle.goal(way)) == cover[0][:2]]
        if second and chance.random() < 0.5:
            cover += (chance.choice(second),)
        may_slip = len(cover) == 2 and oracle.overlap(plan, oracle.marker(plan, oracle.goal(cover[1]))) != ()
        trains.append((name, cover, may_slip and chance.random() < 0.5))
    lies = tuple((name, chance.choice(POSITIONS)) for name, kind in plan[0] if kind == "points")
    shows = tuple(sorted(item[0] for item in plan[2] + plan[3] if chance.random() < 0.6))
    return (tuple(trains), lies, shows)


class MoveTest(unittest.TestCase):
    def assert_moves(self, plan, standing, names, expected):
        with self.subTest(standing=standing, names=names):
            same_calls(self, moves, {"plan": plan, "standing": standing, "names": names}, expected)

    def assert_moved(self, plan, standing, move, expected):
        with self.subTest(standing=standing, move=move):
            same_calls(self, moved, {"plan": plan, "standing": standing, "move": move}, expected)
            self.assertIn(move, moves(plan, standing, (move[1],)))

    def assert_words(self, plan, standing, *words):
        """Tests which moves the train t can make, and that all others are refused."""
        expected = tuple((word, "t") for word in words)
        self.assert_moves(plan, standing, ("t",), expected)
        gates = [item[0] for item in plan[2]]
        for move in [(word, "t") for word in WORDS] + [("in", "t", gate) for gate in gates]:
            if move not in expected:
                raises(self, moved, {"plan": plan, "standing": standing, "move": move}, BadMove, move)


class PossibleTest(MoveTest):
    def test_in(self):
        for shows in ((), ("s",), ("east",), ("east", "west"), ("r", "s", "west")):
            expected = tuple(("in", "t", gate) for gate in ("west", "east") if gate in shows)
            self.assert_moves(LINE, ((), (), shows), ("t",), expected)
            for gate in ("west", "east", "s", "r", "a", "z"):
                move = ("in", "t", gate)
                if move not in expected:
                    raises(self, moved, {"plan": LINE, "standing": ((), (), shows), "move": move}, BadMove, move)

    def test_in_is_not_for_a_train_on_the_track(self):
        for train in (ON_A, SLIPPED, ON_O_AND_A, ON_B):
            standing = ((train,), (), ("east", "west"))
            words = [word for word, *_ in moves(LINE, standing, ("t",))]
            self.assertNotIn("in", words)
            for gate in ("east", "west"):
                move = ("in", "t", gate)
                raises(self, moved, {"plan": LINE, "standing": standing, "move": move}, BadMove, move)
            self.assert_moves(LINE, standing, ("u",), (("in", "u", "west"), ("in", "u", "east")))

    def test_in_where_the_stretch_is_taken(self):
        self.assert_moves(LINE, ((ON_A,), (), ("west",)), ("u",), (("in", "u", "west"),))

    def test_on(self):
        # Past a signal that shows go, at stop, without a signal; and past one at stop that has no overlap.
        self.assert_words(LINE, ((ON_A,), (), ("s",)), "on")
        self.assert_words(LINE, ((ON_A,), (), ("east", "r", "west")), "slip")
        self.assert_words(LINE, ((("t", (("o", 0, 1),), False),), (), ()), "on")
        self.assert_words(LINE, ((("t", (("b", 1, 0),), False),), (), ("s",)))
        self.assert_words(LINE, ((("t", (("b", 1, 0),), False),), (), ("r",)), "on")
        self.assert_words(LOOP, ((("t", (("a", 0, 1),), False),), LEFT, ("sb", "west")))
        self.assert_words(LOOP, ((("t", (("a", 1, 0),), False),), LEFT, ()), "on")

    def test_the_signal_of_the_other_direction_does_not_count(self):
        # t stands behind the joint, at the beginning of b; u is another signal at the other end.
        for shows in ((), ("t",)):
            self.assert_words(FACES, ((ON_A,), (), shows))
        for shows in (("s",), ("s", "t")):
            self.assert_words(FACES, ((ON_A,), (), shows), "on")
        self.assert_words(FACES, ((("t", (("b", 1, 0),), False),), (), ("s", "u")))
        self.assert_words(FACES, ((("t", (("b", 1, 0),), False),), (), ("t",)), "on")

    def test_on_at_a_buffer(self):
        self.assert_words(TIPS, ((("t", (("d", 0, 1),), False),), LEFT, ("e", "g", "h", "s")))
        self.assert_words(TIPS, ((("t", (("d", 1, 0),), False),), LEFT, ()))
        self.assert_words(TIPS, ((("t", (("d", 1, 0),), False),), LEFT, ("s",)), "on")

    def test_tail(self):
        for shows in ((), ("s",), ("east", "s")):
            self.assert_words(LINE, ((ON_O_AND_A,), (), shows), "tail")
        self.assert_words(LINE, ((("t", (("b", 0, 1), ("o", 0, 1)), False),), (), ("east",)), "tail")
        self.assert_words(LINE, ((("t", (("a", 1, 0), ("o", 1, 0)), False),), (), ()), "tail")

    def test_out(self):
        for shows in ((), ("east",)):
            self.assert_words(LINE, ((ON_B,), (), shows), "out")
            self.assert_words(LINE, ((("t", (("a", 1, 0),), False),), (), shows), "out")
        self.assert_words(SHORT, ((("t", (("a", 0, 1),), False),), (), ()), "out")

    def test_slip(self):
        self.assert_words(LINE, ((ON_A,), (), ()), "slip")
        self.assert_words(CROSS, ((("t", (("a", 0, 1),), False),), (), ()), "slip")
        self.assert_words(CROSS, ((("t", (("c", 0, 1),), False),), (), ()))
        self.assert_words(LINE, ((SLIPPED,), (), ()), "back")

    def test_back(self):
        for shows in ((), ("s",), ("east", "r", "s", "west")):
            self.assert_words(LINE, ((SLIPPED,), (), shows), "back")

    def test_one_train_alone_decides(self):
        r, v = ("r", (("b", 1, 0),), False), ("v", (("b", 0, 1),), False)
        trains = (r, SLIPPED, ("u", (("b", 0, 1), ("o", 0, 1)), False), v)
        self.assert_words(LINE, (trains, (), ("r",)), "back")
        self.assert_moves(LINE, (trains, (), ("r",)), ("r",), (("on", "r"),))
        self.assert_moves(LINE, (trains, (), ("r",)), ("u",), (("tail", "u"),))
        self.assert_moves(LINE, (trains, (), ("r",)), ("v",), (("out", "v"),))


class OrderTest(MoveTest):
    def test_the_order_of_names_and_of_gates(self):
        plan = read_plan("stretch a plain\nstretch b plain\njoin a 1 b 0\ngate z b 1\ngate y a 0")
        standing = ((("m", (("a", 0, 1),), False), ("n", (("b", 0, 1),), False)), (), ("y", "z"))
        one, other = (("in", "k", "z"), ("in", "k", "y")), (("in", "x", "z"), ("in", "x", "y"))
        for names, expected in (
            ((), ()),
            (("k",), one),
            (("k", "x"), one + other),
            (("x", "k"), other + one),
            (("n", "x", "m"), (("out", "n"),) + other + (("on", "m"),)),
            (("m", "n"), (("on", "m"), ("out", "n"))),
            (("n", "m"), (("out", "n"), ("on", "m"))),
            (("k", "m"), one + (("on", "m"),)),
        ):
            self.assert_moves(plan, standing, names, expected)

    def test_names_that_are_none_of_the_trains(self):
        for name in GOOD_NAMES:
            self.assert_moves(LINE, ((ON_B,), (), ("west",)), (name,), (("in", name, "west"),))
        self.assert_moves(LINE, ((ON_B,), (), ()), ("a", "b", "west"), ())

    def test_values_that_are_no_names(self):
        wrong = [("a", "a"), ("a", "b", "a"), ("t", "t"), ["t"], "t", {"t": 0}, ("t", None), ("t", 0), ("t", ("u",)),
                 (("t",),), (["t"],), ("t", ["u"]), ("t", {}), ((),)]
        wrong += [(name,) for name in WRONG_NAMES] + [("t", name) for name in WRONG_NAMES]
        standing = ((ON_B,), (), ("west",))
        for names in [*wrong, *[thing for thing in ANY_VALUES if thing != ()]]:
            raises(self, moves, {"plan": LINE, "standing": standing, "names": names}, BadNames, names)


class MovedTest(MoveTest):
    def test_in(self):
        shows = ("east", "r", "s", "west")
        self.assert_moved(LINE, ((), (), shows), ("in", "t", "west"), ((ON_A,), (), ("east", "r", "s")))
        on_b = ("t", (("b", 1, 0),), False)
        self.assert_moved(LINE, ((), (), shows), ("in", "t", "east"), ((on_b,), (), ("r", "s", "west")))
        for name in GOOD_NAMES:
            expected = (((name, (("a", 0, 1),), False),), (), ())
            self.assert_moved(LINE, ((), (), ("west",)), ("in", name, "west"), expected)

    def test_trains_stay_ascending(self):
        u, b2, b10 = ("u", (("o", 0, 1),), False), ("b2", (("b", 0, 1),), False), ("b10", (("a", 0, 1),), False)
        self.assert_moved(LINE, ((u,), (), ("west",)), ("in", "t", "west"), ((ON_A, u), (), ()))
        self.assert_moved(LINE, ((b2, u), (), ("west",)), ("in", "b10", "west"), ((b10, b2, u), (), ()))
        self.assert_moved(LINE, ((b2, u), (), ("west",)), ("in", "z", "west"), ((b2, u, ("z",) + ON_A[1:]), (), ()))
        z = ("z", (("b", 0, 1),), False)
        self.assert_moved(LINE, ((ON_O_AND_A, z), (), ()), ("tail", "t"), ((("t", (("o", 0, 1),), False), z), (), ()))
        self.assert_moved(LINE, ((ON_A, z), (), ("s",)), ("on", "t"), ((ON_O_AND_A, z), (), ()))

    def test_on(self):
        self.assert_moved(LINE, ((ON_A,), (), ("r", "s", "west")), ("on", "t"), ((ON_O_AND_A,), (), ("r", "west")))
        start = ((("t", (("o", 0, 1),), False),), (), ("east", "r", "s"))
        end = ((("t", (("b", 0, 1), ("o", 0, 1)), False),), (), ("east", "r", "s"))
        self.assert_moved(LINE, start, ("on", "t"), end)
        # Face to face, only the signal in front of the train is passed.
        start, end = ((ON_A,), (), ("s", "t", "u")), ((("t", (("b", 0, 1), ("a", 0, 1)), False),), (), ("t", "u"))
        self.assert_moved(FACES, start, ("on", "t"), end)

    def test_tail(self):
        for shows in ((), ("s",), ("east", "r", "s", "west")):
            expected = ((("t", (("o", 0, 1),), False),), (), shows)
            self.assert_moved(LINE, ((ON_O_AND_A,), (), shows), ("tail", "t"), expected)

    def test_out(self):
        u = ("u", (("a", 0, 1),), False)
        for shows in ((), ("east", "s", "west")):
            self.assert_moved(LINE, ((ON_B,), (), shows), ("out", "t"), ((), (), shows))
            self.assert_moved(LINE, ((ON_B, u), (), shows), ("out", "t"), ((u,), (), shows))

    def test_slip_and_back(self):
        for shows in ((), ("east", "r", "west")):
            self.assert_moved(LINE, ((ON_A,), (), shows), ("slip", "t"), ((SLIPPED,), (), shows))
            self.assert_moved(LINE, ((SLIPPED,), (), shows), ("back", "t"), ((ON_A,), (), shows))
        # The signal may have come to show go in the meantime; going back leaves it so.
        self.assert_moved(LINE, ((SLIPPED,), (), ("s",)), ("back", "t"), ((ON_A,), (), ("s",)))
        for start, way in (("a", ("x", 0, 1)), ("d", ("x", 3, 2))):
            front = {"a": ("a", 0, 1), "d": ("d", 1, 0)}[start]
            expected = ((("t", (way, front), True),), (), ())
            self.assert_moved(CROSS, ((("t", (front,), False),), (), ()), ("slip", "t"), expected)

    def test_lies_stay(self):
        for lies in itertools.product(POSITIONS, repeat=2):
            lies = tuple(zip(("p", "q"), lies))
            standing = ((("t", (("e", 0, 1),), False),), lies, ("west",))
            self.assert_moved(LOOP, standing, ("out", "t"), ((), lies, ("west",)))
            come = (standing[0] + (("u", (("w", 0, 1),), False),), lies, ())
            self.assert_moved(LOOP, standing, ("in", "u", "west"), come)


class AccidentTest(MoveTest):
    def test_meet(self):
        u = ("u", (("b", 1, 0),), False)
        on_o = ("u", (("o", 1, 0),), False)
        behind = ("u", (("b", 0, 1), ("o", 0, 1)), False)
        self.assert_moved(LINE, ((u,), (), ("east",)), ("in", "t", "east"), ("meet", "b"))
        self.assert_moved(LINE, ((ON_A,), (), ("west",)), ("in", "u", "west"), ("meet", "a"))
        for other in (on_o, behind, ("u", (("o", 0, 1),), False)):
            self.assert_moved(LINE, ((ON_A, other), (), ("s",)), ("on", "t"), ("meet", "o"))
            self.assert_moved(LINE, ((ON_A, other), (), ()), ("slip", "t"), ("meet", "o"))
        self.assert_moved(LINE, ((ON_A, u), (), ("s",)), ("on", "t"), ((ON_O_AND_A, u), (), ()))

    def test_meet_under_a_slipped_train(self):
        standing = ((("r", (("b", 1, 0),), False), SLIPPED), (), ("r", "west"))
        self.assert_moved(LINE, standing, ("on", "r"), ("meet", "o"))
        self.assert_moved(LINE, standing, ("in", "u", "west"), ("meet", "a"))

    def test_meet_on_a_crossing(self):
        crossing = ("u", (("x", 2, 3),), False)
        self.assert_moved(CROSS, ((("t", (("a", 0, 1),), False), crossing), (), ("s",)), ("on", "t"), ("meet", "x"))
        self.assert_moved(CROSS, ((("t", (("a", 0, 1),), False), crossing), (), ()), ("slip", "t"), ("meet", "x"))

    def test_a_ring_that_the_train_itself_takes(self):
        # The own tail stands ahead; but then the train can only draw it in, and after that the stretch is free.
        ring = read_plan("stretch a plain\nstretch b plain\njoin a 1 b 0\njoin b 1 a 0")
        start = ((("t", (("b", 0, 1), ("a", 0, 1)), False),), (), ())
        self.assert_words(ring, start, "tail")
        free = ((("t", (("b", 0, 1),), False),), (), ())
        self.assert_moved(ring, start, ("tail", "t"), free)
        self.assert_moved(ring, free, ("on", "t"), ((("t", (("a", 0, 1), ("b", 0, 1)), False),), (), ()))

    def test_points_from_each_end(self):
        # Onto p from the tip it goes as they lie; from a leg they must lie for that leg.
        ways = {
            ("w", 0, 1): {"left": ("p", 0, 1), "right": ("p", 0, 2)},
            ("a", 1, 0): {"left": ("p", 1, 0)},
            ("b", 1, 0): {"right": ("p", 2, 0)},
        }
        for front, by_lie in ways.items():
            for lie, other in itertools.product(POSITIONS, repeat=2):
                lies = (("p", lie), ("q", other))
                standing = ((("t", (front,), False),), lies, ("sb", "west"))
                expected = ("derailed", "p")
                if lie in by_lie:
                    shows = ("west",) if front[0] == "b" else ("sb", "west")
                    expected = ((("t", (by_lie[lie], front), False),), lies, shows)
                self.assert_moved(LOOP, standing, ("on", "t"), expected)

    def test_the_points_ahead_decide_and_no_others(self):
        standing = ((("t", (("p", 1, 0),), False),), (("p", "left"), ("q", "between")), ())
        self.assert_moved(TIPS, standing, ("on", "t"), ("derailed", "q"))
        for lie, way in (("left", ("q", 0, 1)), ("right", ("q", 0, 2))):
            for here in POSITIONS:
                lies = (("p", here), ("q", lie))
                standing = ((("t", (("p", 1, 0),), False),), lies, ())
                self.assert_moved(TIPS, standing, ("on", "t"), ((("t", (way, ("p", 1, 0)), False),), lies, ()))

    def test_leaving_points_that_lie_otherwise(self):
        for here in POSITIONS:
            lies = (("p", here), ("q", "left"))
            standing = ((("t", (("p", 0, 2),), False),), lies, ())
            self.assert_moved(LOOP, standing, ("on", "t"), ((("t", (("b", 0, 1), ("p", 0, 2)), False),), lies, ()))

    def test_meet_comes_ahead_of_derailed(self):
        for lie in POSITIONS:
            for way in (("p", 0, 1), ("p", 2, 0)):
                for front, shows in ((("a", 1, 0), ()), (("b", 1, 0), ("sb",)), (("w", 0, 1), ())):
                    trains = (("t", (front,), False), ("u", (way,), False))
                    self.assert_moved(LOOP, (trains, (("p", lie), ("q", "left")), shows), ("on", "t"), ("meet", "p"))


class AllTest(MoveTest):
    def cases(self):
        chance = random.Random(9)
        for plan in [*[plan for plan in PLANS if plan[0]], *random_plans(120, 10)]:
            for _ in range(4):
                yield plan, random_standing(chance, plan)

    def test_all_moves_and_what_comes_of_them(self):
        names = ("z", "b10", "a", "t0", "y")
        found = []
        for plan, standing in self.cases():
            self.assertIs(is_standing(plan, standing), True)
            expected = [move for name in names for move in oracle.possible(plan, standing, name)]
            self.assertEqual(moves(plan, standing, names), tuple(expected))
            for move in expected:
                after = moved(plan, standing, move)
                self.assertEqual(after, oracle.after(plan, standing, move), (plan, standing, move))
                self.assertIs(is_standing(plan, after), len(after) == 3)
                found.append(move[0] if len(after) == 3 else after[0])
        for word in (*WORDS, "meet", "derailed"):
            self.assertGreater(found.count(word), 10, word)

    def test_all_others_are_refused(self):
        for plan, standing in self.cases():
            names = ("a", "b10", "z")
            possible = moves(plan, standing, names)
            gates = [item[0] for item in plan[2] + plan[3]]
            others = [(word, name) for name in names for word in WORDS]
            others += [("in", name, gate) for name in names for gate in gates]
            for move in others:
                if move not in possible:
                    raises(self, moved, {"plan": plan, "standing": standing, "move": move}, BadMove, move)

    def test_any_values(self):
        u = ("u", (("o", 1, 0),), False)
        standing = ((ON_A, u), (), ("s", "west"))
        wrong = [*ANY_VALUES, "on", ("on",), ("on", "t", "s"), ("on", "t", ()), ["on", "t"], ("On", "t"), ("t", "on"),
                 ("on", ["t"]), ("on", ("t",)), (("on",), "t"), (["on"], "t"), ("tail", "u"), ("on", "v"), ("on", None),
                 ("", "t"), ("meet", "t"), ("in", "v"), ("in", "v", "west", 0), ("in", "v", ["west"]),
                 ("in", "v", None), ("in", "V", "west"), ("in", "", "west"), ("in", None, "west"),
                 ("in", ("v",), "west"), ("in", [], "west"), ("in", "t", "west"), ("in", "v", "east"),
                 ("slip", "v", "west"), ("on", "t", "west"), ("in", {}, {}), {"on": "t"}, ("on", 0), (0, "t"),
                 (("on", "t"),), standing, standing[0], "on t"]
        wrong += [("in", name, "west") for name in WRONG_NAMES] + [("on", name) for name in WRONG_NAMES]
        for move in (("on", "t"), ("in", "v", "west")):
            self.assertIn(move, moves(LINE, standing, ("t", "v")))
            wrong += [*wrong_kinds(move), *wrong_lengths(move, lambda place: False)]
        for move in wrong:
            with self.subTest(move=move):
                raises(self, moved, {"plan": LINE, "standing": standing, "move": move}, BadMove, move)

    def test_wrong_standings_come_first(self):
        for standing in (None, (), [], ((), (("p", "left"),), ()), ((ON_A, ON_A), (), ()), ((ON_A,), (), ("s", "s"))):
            for move in (("on", "t"), None, []):
                raises(self, moved, {"plan": LINE, "standing": standing, "move": move}, BadStanding, standing)
            for names in (("t",), None, ("t", "t")):
                raises(self, moves, {"plan": LINE, "standing": standing, "names": names}, BadStanding, standing)


if __name__ == "__main__":
    unittest.main()
