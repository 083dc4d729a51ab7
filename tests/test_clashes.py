"""[12.1], [12.2] Clashes: clash, is_clash."""

import itertools
import unittest

from clearline.clashes import clash, is_clash
from clearline.errors import BadPair, BadRoute
from clearline.plans import read_plan
from clearline.routes import do_bar, needs, routes
from tests import box_oracle, oracle
from tests.layouts import CROSS, FACES, LADDER, LINE, PLANS, RING, TIPS, random_plans
from tests.samples import ANY_VALUES, LOOP, raises, same_calls, wrong_kinds, wrong_lengths
from tests.trains import HALT, STATION, YARD

TABLE = routes(LOOP)
NAMES = ("one", "other")


def front(plan, route):
    """The stretch in front of a route's start, or None."""
    return {name: end[0] for name, end, _ in plan[3]}.get(route[0])


def are_a_pair(plan, one, other):
    """Whether two routes have different starts, and different stretches in front of them."""
    fronts = front(plan, one), front(plan, other)
    return one[0] != other[0] and (None in fronts or fronts[0] != fronts[1])


def pairs(plan):
    """All pairs of routes that have different starts, and different stretches in front of them."""
    return [(one, other) for one in routes(plan) for other in routes(plan) if are_a_pair(plan, one, other)]


def first_standing(plan, one, other):
    """Where both trains are at the beginning."""
    trains = []
    for name, route in zip(NAMES, (one, other)):
        for signal, end, _ in plan[3]:
            if signal == route[0]:
                trains.append((name, ((end[0], 1 - end[1], end[1]),), False))
    lies = {name: "left" for name, kind in plan[0] if kind == "points"}
    lies.update(box_oracle.lies(plan, one))
    lies.update(box_oracle.lies(plan, other))
    return (tuple(trains), tuple(lies.items()), tuple(sorted((one[0], other[0]))))


def all_moves(plan, starts, standing):
    """The moves of both trains; each comes in at the gate of its own route only."""
    return [
        move for name in NAMES for move in oracle.possible(plan, standing, name)
        if move[0] != "in" or move[2] == starts[name]
    ]


def shortest(plan, one, other):
    """The number of moves of the shortest clash, or None."""
    starts = dict(zip(NAMES, (one[0], other[0])))
    level, seen, many = [first_standing(plan, one, other)], set(), 0
    while level:
        many, following = many + 1, []
        for standing in level:
            for move in all_moves(plan, starts, standing):
                after = oracle.after(plan, standing, move)
                if after[0] in ("meet", "derailed"):
                    return many
                if after not in seen:
                    seen.add(after)
                    following.append(after)
        level = following
    return None


def clashes_up_to(plan, one, other, most):
    """All rows of at most so many moves that are possible, each with whether it is a clash."""
    starts = dict(zip(NAMES, (one[0], other[0])))
    rows = [((), first_standing(plan, one, other))]
    for _ in range(most):
        longer = []
        for row, standing in rows:
            for move in all_moves(plan, starts, standing):
                after = oracle.after(plan, standing, move)
                is_accident = after[0] in ("meet", "derailed")
                yield row + (move,), is_accident
                if not is_accident:
                    longer.append((row + (move,), after))
        rows = longer


class ClashesTest(unittest.TestCase):
    def assert_clash(self, plan, one, other, many):
        """That there is a clash of so many moves, and none of fewer; None if there is none at all."""
        arguments = {"plan": plan, "one": one, "other": other}
        found = clash(**arguments)
        with self.subTest(one=one, other=other):
            same_calls(self, clash, arguments, found)
            self.assertEqual(None if found is None else len(found), many)
            same_calls(self, is_clash, {**arguments, "thing": found}, found is not None)
            same_calls(self, is_clash, {**arguments, "thing": ()}, False)
        return found

    def test_a_common_step(self):
        self.assert_clash(LOOP, TABLE[0], TABLE[2], 8)
        # One comes in, the other one goes on to p, and they meet.
        self.assert_clash(LOOP, TABLE[0], TABLE[5], 3)
        # If the one from west comes second, p lies left, and the one from sb derails there.
        self.assertEqual(self.assert_clash(LOOP, TABLE[5], TABLE[0], 1), (("on", "one"),))

    def test_nothing_in_common(self):
        self.assert_clash(LOOP, TABLE[0], TABLE[3], None)
        self.assert_clash(LOOP, TABLE[3], TABLE[0], None)
        self.assert_clash(LOOP, TABLE[4], TABLE[5], None)

    def test_one_stands_where_the_other_one_goes(self):
        # They do not bar each other; but one's berth is where the other one stands.
        self.assertIs(do_bar(LOOP, TABLE[0], TABLE[4]), False)
        for one, other, train in ((TABLE[0], TABLE[4], "one"), (TABLE[4], TABLE[0], "other")):
            found = self.assert_clash(LOOP, one, other, 4)
            self.assertEqual(found, (("in", train, "west"), ("on", train), ("tail", train), ("on", train)))

    def test_points_lie_as_the_second_one_needs(self):
        # From gw by p, left, to gb and ga; from gd by r and p, right. Where both need p, the second one has it.
        ladder = {(route[0], route[2]): route for route in routes(LADDER)}
        one, other = ladder[("ga", "gw")], ladder[("gd", "gw")]
        self.assert_clash(LADDER, one, other, 4)
        self.assert_clash(LADDER, other, one, 4)
        # From ga over a and q to p, which lies right only if the route from gd is the second one.
        self.assertIs(is_clash(LADDER, one, other, self.to_p("one", "ga")), True)
        self.assertIs(is_clash(LADDER, other, one, self.to_p("other", "ga")), False)
        # From gd over d and r likewise, the other way round.
        self.assertIs(is_clash(LADDER, one, other, self.to_p("other", "gd")), False)
        self.assertIs(is_clash(LADDER, other, one, self.to_p("one", "gd")), True)

    def to_p(self, train, gate):
        """The moves from a gate over two stretches to the third one."""
        return (("in", train, gate), ("on", train), ("tail", train), ("on", train))

    def test_points_behind_an_overlap(self):
        # The points p come behind the crossing, which is the overlap of s and of t.
        plan = read_plan(
            "stretch a plain\nstretch x crossing\nstretch p points\nstretch b plain\nstretch c plain\nstretch k plain\n"
            "join a 1 x 0\njoin x 1 p 0\njoin p 1 b 0\njoin p 2 c 0\njoin k 1 x 2\n"
            "gate g a 0\ngate h b 1\ngate i c 1\ngate j k 0\nsignal s a 1 over x 0 1\nsignal t k 1 over x 2 3\n"
            "signal u b 0\nsignal v c 0")
        for one, other in pairs(plan):
            self.assert_clash(plan, one, other, shortest(plan, one, other))

    def test_a_common_overlap(self):
        # Both slip onto the crossing; nothing else is common to them.
        table = {(route[0], route[2]): route for route in routes(CROSS)}
        one, other = table[("west", "s")], table[("south", "n")]
        self.assertEqual(set(needs(CROSS, one)) & set(needs(CROSS, other)), {"x"})
        found = self.assert_clash(CROSS, one, other, 4)
        self.assertEqual([move[0] for move in found].count("slip"), 2)
        self.assertEqual(found[-1][0], "slip")

    def test_an_overlap_among_the_steps(self):
        table = {(route[0], route[2]): route for route in routes(LINE)}
        one, other = table[("west", "s")], table[("r", "west")]
        found = self.assert_clash(LINE, one, other, shortest(LINE, one, other))
        self.assertIsNotNone(found)
        # From r over o to a; one stands on b, whose end is at r, and the other one's overlap is o.
        self.assertIs(is_clash(LINE, one, other, (("in", "one", "west"), ("on", "other"), ("slip", "one"))), True)
        self.assertIs(is_clash(LINE, one, other, (("in", "one", "west"), ("slip", "one"), ("on", "other"))), True)

    def test_in_its_own_gate_only(self):
        # Both gates show go; each train comes in at its own.
        one, other = TABLE[0], TABLE[2]
        self.assertIs(is_clash(LOOP, one, other, (("in", "one", "west"), ("in", "other", "west"))), False)
        self.assertIs(is_clash(LOOP, one, other, (("in", "one", "east"), ("in", "other", "east"))), False)
        # From ga to p, which lies right: whoever comes in there derails, but it is one's gate.
        ladder = {(route[0], route[2]): route for route in routes(LADDER)}
        one, other = ladder[("ga", "gw")], ladder[("gd", "gw")]
        self.assertIs(is_clash(LADDER, one, other, self.to_p("one", "ga")), True)
        self.assertIs(is_clash(LADDER, one, other, self.to_p("other", "ga")), False)
        # A train whose route begins at a signal has no gate to come in at, and need not: it is on the track.
        table = {(route[0], route[2]): route for route in routes(FACES)}
        found = clash(FACES, table[("s", "u")], table[("h", "v")])
        self.assertNotIn(("in", "one", "h"), found)
        self.assertIs(is_clash(FACES, table[("s", "u")], table[("h", "v")], (("in", "one", "h"),)), False)

    def test_who_has_gone_out_comes_in_no_more(self):
        # one goes out at east, where other's route begins; it cannot come in there in its place.
        one, other = TABLE[4], TABLE[3]
        out = (("on", "one"), ("tail", "one"), ("on", "one"), ("tail", "one"), ("out", "one"))
        self.assertIs(is_clash(LOOP, one, other, out), False)
        self.assertIs(is_clash(LOOP, one, other, out + (("in", "one", "east"), ("in", "other", "east"))), False)

    def test_only_the_starts_show_go(self):
        # Behind its own route a train slips, or waits; it cannot go on.
        one, other = TABLE[0], TABLE[3]
        far = (("in", "one", "west"), ("on", "one"), ("tail", "one"), ("on", "one"), ("tail", "one"), ("on", "one"))
        self.assertIs(is_clash(LOOP, one, other, far), False)
        # A start is passed but once.
        self.assertIs(is_clash(LOOP, one, TABLE[2], (("in", "one", "west"), ("in", "other", "west"))), False)


class ExactlyTest(unittest.TestCase):
    def test_exactly(self):
        found = {True: 0, False: 0}
        words = []
        for plan in [*PLANS, STATION, HALT, YARD, *random_plans(250, 161, 12)]:
            if len(routes(plan)) > 30:
                continue
            for one, other in pairs(plan)[::3]:
                expected = do_bar(plan, one, other)
                expected = expected or front(plan, other) in needs(plan, one) or front(plan, one) in needs(plan, other)
                moves = clash(plan, one, other)
                self.assertEqual(moves is not None, expected, (plan, one, other))
                found[expected] += 1
                if expected:
                    self.assertIs(is_clash(plan, one, other, moves), True)
                    words.append(moves[-1][0])
        self.assertGreater(min(found.values()), 300)
        for word in ("in", "on", "slip"):
            self.assertGreater(words.count(word), 20, word)

    def test_with_the_fewest_moves(self):
        many = []
        for plan in [*PLANS, STATION, YARD, *random_plans(120, 162, 10)]:
            if len(routes(plan)) > 30:
                continue
            for one, other in pairs(plan)[::5]:
                moves = clash(plan, one, other)
                expected = shortest(plan, one, other)
                self.assertEqual(None if moves is None else len(moves), expected, (plan, one, other))
                many.append(expected)
        for number in (None, 1, 2, 3, 5, 8):
            self.assertIn(number, many)

    def test_all_rows_of_moves(self):
        # Short ones and long ones; also with moves that lead nowhere.
        right, wrong = 0, 0
        for plan in (LOOP, LINE, CROSS, TIPS, FACES, RING):
            for one, other in pairs(plan)[::4]:
                for row, expected in itertools.islice(clashes_up_to(plan, one, other, 9), 400):
                    self.assertIs(is_clash(plan, one, other, row), expected)
                    right, wrong = right + expected, wrong + (not expected)
        self.assertGreater(right, 100)
        self.assertGreater(wrong, 100)


class NearMissesTest(unittest.TestCase):
    def assert_no_clash(self, plan, one, other, *things):
        for thing in things:
            with self.subTest(thing=thing):
                same_calls(self, is_clash, {"plan": plan, "one": one, "other": other, "thing": thing}, False)

    def test_more_moves(self):
        # The other one comes in before, or one has slipped and come back; the accident remains the last one.
        one, other = TABLE[0], TABLE[5]
        rows = [row for row, is_accident in clashes_up_to(LOOP, one, other, 9) if is_accident]
        self.assertGreater(len({len(row) for row in rows}), 2)
        for row in rows:
            same_calls(self, is_clash, {"plan": LOOP, "one": one, "other": other, "thing": row}, True)

    def test_near_misses(self):
        for plan, one, other in (
            (LOOP, TABLE[0], TABLE[2]), (LOOP, TABLE[0], TABLE[5]), (CROSS, routes(CROSS)[0], routes(CROSS)[3]),
        ):
            moves = clash(plan, one, other)
            # One more behind the accident, or the accident once more.
            self.assert_no_clash(
                plan, one, other, moves + moves[-1:], moves + (("tail", "one"),), moves + (("on", "one"),),
                moves + (("on", "other"),), moves + (None,), moves[:-1])
            names = {"one": "other", "other": "one"}
            for at, move in enumerate(moves):
                for name in ("third", names[move[1]]):
                    other_train = moves[:at] + ((move[0], name, *move[2:]),) + moves[at + 1:]
                    self.assert_no_clash(plan, one, other, other_train)
                # All of these moves are needed, and the shortest clash has no fewer.
                self.assert_no_clash(plan, one, other, moves[:at] + moves[at + 1:])
            # With the names exchanged, each would come in where the other one's route begins.
            self.assert_no_clash(plan, one, other, tuple((move[0], names[move[1]], *move[2:]) for move in moves))
            self.assert_no_clash(plan, one, other, [*moves], moves[::-1], tuple(map(list, moves)), moves[0], (moves,))

    def test_other_values(self):
        one, other = TABLE[0], TABLE[5]
        moves = clash(LOOP, one, other)
        self.assert_no_clash(LOOP, one, other, *ANY_VALUES, LOOP, one)
        self.assert_no_clash(LOOP, one, other, *wrong_kinds(moves))
        self.assert_no_clash(LOOP, one, other, *wrong_lengths(moves, lambda place: False))
        for value in ANY_VALUES:
            self.assert_no_clash(
                LOOP, one, other, (value,), moves[:1] + (value,), ((value, "one"),), (("on", value),),
                (("in", "one", value),))

    def test_no_clash_of_routes_that_have_none(self):
        one, other = TABLE[0], TABLE[3]
        for row, is_accident in itertools.islice(clashes_up_to(LOOP, one, other, 20), 500):
            self.assertIs(is_accident, False)
            self.assertIs(is_clash(LOOP, one, other, row), False)


class ErrorsTest(unittest.TestCase):
    def assert_raises(self, plan, one, other, error, thing):
        for function, more in ((clash, {}), (is_clash, {"thing": (("on", "one"),)}), (is_clash, {"thing": None})):
            with self.subTest(function.__name__, one=one, other=other):
                arguments = {"plan": plan, "one": one, "other": other, **more}
                if error is BadRoute:
                    raises(self, function, arguments, error, thing)
                    continue
                for call in (lambda: function(*arguments.values()), lambda: function(**arguments)):
                    with self.assertRaises(error) as caught:
                        call()
                    self.assertIs(type(caught.exception), error)
                    self.assertEqual(caught.exception.thing, thing)

    def test_bad_routes(self):
        start, steps, end = right = TABLE[0]
        for wrong in ((start, steps[1:], end), ("east", steps, end), [*right], routes(LINE)[0], *ANY_VALUES):
            self.assert_raises(LOOP, wrong, TABLE[3], BadRoute, wrong)
            self.assert_raises(LOOP, TABLE[3], wrong, BadRoute, wrong)
            # The first one that is no route, also where both are the same.
            self.assert_raises(LOOP, wrong, (), BadRoute, wrong)
            self.assert_raises(LOOP, wrong, wrong, BadRoute, wrong)

    def test_the_same_start(self):
        for one, other in ((TABLE[0], TABLE[1]), (TABLE[1], TABLE[0]), (TABLE[0], TABLE[0]), (TABLE[4], TABLE[4])):
            self.assert_raises(LOOP, one, other, BadPair, (one, other))

    def test_the_same_stretch_in_front(self):
        # ae and aw stand at both ends of a.
        table = {(route[0], route[2]): route for route in routes(STATION)}
        one, other = table[("ae", "ce")], table[("aw", "west")]
        self.assert_raises(STATION, one, other, BadPair, (one, other))
        self.assert_raises(STATION, other, one, BadPair, (other, one))

    def test_gates_have_no_stretch_in_front(self):
        # Both gates stand at one stretch, or at the stretch of a signal.
        plan = read_plan("stretch a plain\nstretch b plain\njoin a 1 b 0\ngate g a 0\ngate h b 1\nsignal s a 1\nsignal t b 0")
        for one, other in itertools.product(routes(plan), repeat=2):
            if are_a_pair(plan, one, other):
                self.assertEqual(clash(plan, one, other) is None, shortest(plan, one, other) is None)
            else:
                self.assert_raises(plan, one, other, BadPair, (one, other))
        short = read_plan("stretch a plain\ngate g a 1\ngate h a 0")
        self.assertEqual(len(clash(short, *routes(short))), 2)

    def test_all_pairs(self):
        for plan in (LOOP, LINE, FACES, YARD):
            for one, other in itertools.product(routes(plan), repeat=2):
                if not are_a_pair(plan, one, other):
                    self.assert_raises(plan, one, other, BadPair, (one, other))


if __name__ == "__main__":
    unittest.main()
