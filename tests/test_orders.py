"""[6.2] Orders: ordered, reason_holds."""

import itertools
import random
import unittest

from clearline.box import begun_book, is_book, ordered, reason_holds, told
from clearline.errors import BadOrder
from tests import box_oracle
from tests.layouts import LINE
from tests.plays import Play
from tests.samples import ANY_VALUES, LOOP, changed, raises, same_calls, wrong_kinds, wrong_lengths
from tests.trains import BOTH, FACING, FOUR, HALT, LOOP_TABLE, PASSING, SAMPLES, STATION, path, random_samples

# Three that begin at the gate west, and one from the east.
LINED = (
    ("t", path(LINE, "west", "s", "east")), ("u", path(LINE, "east", "r", "west")),
    ("v", path(LINE, "west", "s", "east")), ("x", path(LINE, "west", "s", "east")),
)
# t stands on a with the overlap o, u on b; what is on the way is added to this.
NOBODY = (0, (0, 0, 0, 0), (0, 0, 0), ((), (), (), ()))
STANDING = (1, (1, 0, 0, 0), (1, 1, 0), ((), (), (), ()))
UNDER_WAY = (2, (2, 0, 0, 0), (1, 1, 1), (("open", 2), (), (), ()))
STOPPING = (3, (2, 0, 0, 0), (1, 1, 1), (("stop", 3, 2), (), (), ()))
SWEEPING = (3, (2, 0, 0, 0), (0, 1, 1), (("sweep", 1, 3), (), (), ()))


class OrdersTest(unittest.TestCase):
    def assert_ordered(self, plan, journeys, book, order, expected):
        self.assertIs(is_book(plan, journeys, book), True, book)
        arguments = {"plan": plan, "journeys": journeys, "book": book, "order": order}
        with self.subTest(book=book, order=order):
            same_calls(self, ordered, arguments, expected)

    def assert_refused(self, plan, journeys, book, order, reason):
        self.assert_ordered(plan, journeys, book, order, (book, (("refused", reason),)))
        self.assert_reasons(plan, journeys, book, order, [reason])

    def assert_granted(self, plan, journeys, book, order, after, *deeds):
        self.assert_ordered(plan, journeys, book, order, (after, deeds))
        self.assertIs(is_book(plan, journeys, after), True)
        self.assert_reasons(plan, journeys, book, order, [])

    def assert_reasons(self, plan, journeys, book, order, reasons):
        """That reason_holds takes just these reasons."""
        arguments = {"plan": plan, "journeys": journeys, "book": book, "order": order}
        for thing in [*self.all_reasons(plan, journeys), *reasons]:
            with self.subTest(book=book, order=order, thing=thing):
                same_calls(self, reason_holds, {**arguments, "thing": thing}, thing in reasons)

    def all_reasons(self, plan, journeys):
        """All values that are a reason for some order."""
        names = [name for name, _ in journeys]
        yield ("home",)
        for name in names:
            yield from [(word, name) for word in ("under way", "stopping", "line", "standing", "gone")]
            yield from [("locked", stretch, name) for stretch, _ in plan[0]]
        for many in range(len(names) + 1):
            yield from [("knot", row) for row in itertools.combinations(sorted(names), many)]


class GoTest(OrdersTest):
    def test_granted_without_points(self):
        self.assert_granted(
            LINE, LINED, NOBODY, ("go", "t"), (1, (1, 0, 0, 0), (1, 1, 0), (("open", 1), (), (), ())),
            ("row", ("go", "t")), ("row", ("open", "t")), ("send", ("open", "west", 1)))
        self.assert_granted(
            LINE, LINED, STANDING, ("go", "t"), UNDER_WAY,
            ("row", ("go", "t")), ("row", ("open", "t")), ("send", ("open", "s", 2)))

    def test_granted_with_points(self):
        book = (7, (0, 1), (0, 0, 0, 2, 0, 0), ((), ()))
        self.assert_granted(
            LOOP, BOTH, book, ("go", "one"), (8, (1, 1), (1, 1, 1, 2, 0, 0), (("points", (8,), (False,)), ())),
            ("row", ("go", "one")), ("send", ("throw", "p", 8, "left")))
        book = (3, (1, 0, 0, 0), tuple(1 if name == "a" else 0 for name, _ in STATION[0]), ((),) * 4)
        self.assert_granted(
            STATION, FOUR, book, ("go", "east1"),
            (5, (2, 0, 0, 0), (0, 0, 1, 0, 1, 1, 1, 1, 0, 0, 0), (("points", (4, 5), (False, False)), (), (), ())),
            ("row", ("go", "east1")), ("send", ("throw", "q", 4, "left")), ("send", ("throw", "r", 5, "left")))

    def test_points_have_numbers_in_the_order_of_their_names(self):
        # q is entered before p.
        through = (("t", (LOOP_TABLE[2],)),)
        self.assert_granted(
            LOOP, through, begun_book(LOOP, through), ("go", "t"),
            (2, (1,), (1, 1, 1, 0, 1, 1), (("points", (1, 2), (False, False)),)),
            ("row", ("go", "t")), ("send", ("throw", "p", 1, "left")), ("send", ("throw", "q", 2, "left")))

    def test_home(self):
        home = (9, (2, 0, 0, 0), (0, 0, 0), ((), (), (), ()))
        self.assert_refused(LINE, LINED, home, ("go", "t"), ("home",))
        # Home by its count, while its last route is under way: this comes ahead of "under way" and "stopping".
        for book in (UNDER_WAY, STOPPING, SWEEPING):
            self.assert_refused(LINE, LINED, book, ("go", "t"), ("home",))

    def test_under_way(self):
        first = ((1, 0, 0, 0), (1, 1, 0))
        for work in (("points", (), ()), ("open", 2), ("stop", 2, 1)):
            self.assert_refused(LINE, LINED, (2, *first, (work, (), (), ())), ("go", "t"), ("under way", "t"))
        sweep = (3, (1, 0), (1, 1, 1, 0, 0, 0), (("sweep", 1, 3), ()))
        self.assert_refused(LOOP, BOTH, sweep, ("go", "one"), ("under way", "one"))
        # Ahead of "stopping", another train's too.
        book = (4, (1, 1), (1, 1, 1, 2, 2, 2), (("points", (1,), (False,)), ("stop", 3, 2)))
        self.assert_refused(LOOP, BOTH, book, ("go", "one"), ("under way", "one"))

    def test_stopping(self):
        book = (4, (0, 1), (0, 0, 0, 2, 2, 2), ((), ("stop", 3, 2)))
        self.assert_refused(LOOP, BOTH, book, ("go", "one"), ("stopping", "two"))
        # The first one in the journeys' order; ahead of "line" and "locked".
        self.assert_refused(LINE, LINED, STOPPING, ("go", "x"), ("stopping", "t"))
        everyone = BOTH + (("three", path(LOOP, "west", "sa", "east")), ("four", path(LOOP, "west", "sa", "east")))
        book = (6, (1, 1, 0, 0), (1, 1, 1, 2, 2, 2), (("stop", 4, 3), ("stop", 6, 5), (), ()))
        self.assert_refused(LOOP, everyone, book, ("go", "four"), ("stopping", "one"))
        book = (6, (1, 1, 0, 0), (1, 1, 1, 2, 2, 2), (("open", 4), ("stop", 6, 5), (), ()))
        self.assert_refused(LOOP, everyone, book, ("go", "four"), ("stopping", "two"))

    def test_line(self):
        self.assert_refused(LINE, LINED, NOBODY, ("go", "v"), ("line", "t"))
        # The first such train, not the next one.
        self.assert_refused(LINE, LINED, NOBODY, ("go", "x"), ("line", "t"))
        home = (9, (2, 0, 0, 0), (0, 0, 0), ((), (), (), ()))
        self.assert_refused(LINE, LINED, home, ("go", "x"), ("line", "v"))
        self.assertEqual(ordered(LINE, LINED, home, ("go", "v"))[0][1], (2, 0, 1, 0))
        # Ahead of "locked".
        self.assert_refused(LINE, LINED, STANDING, ("go", "x"), ("line", "v"))

    def test_no_line(self):
        # At another gate, behind it in the journeys' order, or itself on the track.
        self.assertEqual(ordered(LINE, LINED, NOBODY, ("go", "u"))[0][1], (0, 1, 0, 0))
        self.assertEqual(ordered(LINE, LINED, NOBODY, ("go", "t"))[0][1], (1, 0, 0, 0))
        standing = (9, (0, 0, 1, 0), (3, 3, 0), ((), (), (), ()))
        self.assertEqual(ordered(LINE, LINED, standing, ("go", "v"))[0][1], (0, 0, 2, 0))

    def test_locked(self):
        self.assert_refused(LINE, LINED, STANDING, ("go", "v"), ("locked", "a", "t"))
        # The first stretch, ascending: its route needs a, p and w.
        for locks, stretch, other in (
            ((0, 0, 2, 2, 0, 0), "a", "two"), ((2, 0, 0, 2, 0, 0), "w", "two"), ((2, 2, 0, 2, 0, 0), "p", "two"),
            ((2, 2, 2, 2, 2, 2), "a", "two"),
        ):
            self.assert_refused(LOOP, BOTH, (5, (0, 1), locks, ((), ())), ("go", "one"), ("locked", stretch, other))
        # What is locked for the train itself, or not needed, is in no one's way.
        self.assertEqual(ordered(LOOP, BOTH, (5, (0, 1), (1, 1, 1, 2, 2, 2), ((), ())), ("go", "one"))[0][1], (1, 1))
        # Ahead of "knot".
        book = (5, (1, 0, 0, 0), (1, 1, 3), ((), (), (), ()))
        self.assert_refused(LINE, LINED, book, ("go", "u"), ("locked", "b", "v"))

    def test_what_is_locked_behind_a_train_that_is_home(self):
        book = (5, (2, 0, 0, 0), (0, 0, 1), (("sweep", 2, 5), (), (), ()))
        self.assert_refused(LINE, LINED, book, ("go", "u"), ("locked", "b", "t"))

    def test_knot(self):
        self.assert_refused(LINE, LINED, STANDING, ("go", "u"), ("knot", ("t", "u")))
        locks = tuple({"a": 1, "b": 3, "d": 4}.get(name, 0) for name, _ in STATION[0])
        book = (9, (1, 0, 1, 1), locks, ((), (), (), ()))
        self.assert_refused(STATION, FOUR, book, ("go", "west1"), ("knot", ("east1", "east2", "west1", "west2")))

    def test_any_knot(self):
        # Two pairs that face each other: each is a knot, and so are both together.
        plan, journeys, book = self.two_lines()
        rows = [("d1", "d2", "e1", "e2"), ("d1", "d2"), ("e1", "e2")]
        found = ordered(plan, journeys, book, ("go", "e2"))
        self.assertEqual(found[0], book)
        self.assertIn(found[1][0], [("refused", ("knot", row)) for row in rows])
        self.assert_reasons(plan, journeys, book, ("go", "e2"), [("knot", row) for row in rows])

    def two_lines(self):
        """Two lines that have nothing to do with each other; on one of them two trains face each other already."""
        stretches, joints, gates, signals = (LINE[at] for at in range(4))
        twice = []
        for mark in ("d", "e"):
            twice.append((
                tuple((name + mark, kind) for name, kind in stretches),
                tuple(((one[0] + mark, one[1]), (other[0] + mark, other[1])) for one, other in joints),
                tuple((name + mark, (end[0] + mark, end[1])) for name, end in gates),
                tuple(
                    (name + mark, (end[0] + mark, end[1]), tuple((step[0] + mark, *step[1:]) for step in overlap))
                    for name, end, overlap in signals),
            ))
        plan = tuple(one + other for one, other in zip(*twice))
        journeys = tuple(
            (mark + number, path(plan, *[name + mark for name in names]))
            for mark in ("d", "e") for number, names in (("1", ("west", "s", "east")), ("2", ("east", "r", "west"))))
        return plan, journeys, (4, (1, 1, 1, 0), (1, 1, 2, 3, 3, 0), ((), (), (), ()))


class UndoTest(OrdersTest):
    def test_undone_at_once(self):
        book = (8, (1, 1), (1, 1, 1, 2, 0, 0), (("points", (8,), (False,)), ()))
        self.assert_granted(
            LOOP, BOTH, book, ("undo", "one"), (8, (0, 1), (0, 0, 0, 2, 0, 0), ((), ())), ("row", ("undone", "one")))

    def test_undone_whatever_is_done_of_points(self):
        for done in ((False, False), (True, False), (True, True)):
            book = (5, (2, 0, 0, 0), (0, 0, 1, 0, 1, 1, 1, 1, 0, 0, 0), (("points", (4, 5), done), (), (), ()))
            # What it holds where it stood remains locked.
            self.assert_granted(
                STATION, FOUR, book, ("undo", "east1"),
                (5, (1, 0, 0, 0), (0, 0, 1, 0, 0, 0, 0, 0, 0, 0, 0), ((), (), (), ())), ("row", ("undone", "east1")))
        book = (5, (1, 0, 0, 0), (1, 1, 0), (("points", (), ()), (), (), ()))
        self.assert_granted(
            LINE, LINED, book, ("undo", "t"), (5, (0, 0, 0, 0), (0, 0, 0), ((), (), (), ())), ("row", ("undone", "t")))

    def test_an_overlap_remains_locked(self):
        book = (5, (2, 0, 0, 0), (1, 1, 1), (("points", (), ()), (), (), ()))
        self.assert_granted(
            LINE, LINED, book, ("undo", "t"), (5, (1, 0, 0, 0), (1, 1, 0), ((), (), (), ())), ("row", ("undone", "t")))

    def test_all_that_is_not_held_is_unlocked(self):
        book = (5, (1, 0, 0, 0), (1, 1, 1), (("points", (), ()), (), (), ()))
        self.assert_granted(
            LINE, LINED, book, ("undo", "t"), (5, (0, 0, 0, 0), (0, 0, 0), ((), (), (), ())), ("row", ("undone", "t")))

    def test_to_stop(self):
        self.assert_granted(
            LINE, LINED, UNDER_WAY, ("undo", "t"), STOPPING, ("row", ("stop", "t")), ("send", ("stop", "s", 3)))
        book = (6, (1, 0), (1, 1, 1, 0, 0, 0), (("open", 4), ()))
        self.assert_granted(
            LOOP, BOTH, book, ("undo", "one"), (7, (1, 0), (1, 1, 1, 0, 0, 0), (("stop", 7, 4), ())),
            ("row", ("stop", "one")), ("send", ("stop", "west", 7)))

    def test_standing(self):
        # Outside, standing, and home.
        self.assert_refused(LINE, LINED, NOBODY, ("undo", "t"), ("standing", "t"))
        self.assert_refused(LINE, LINED, STANDING, ("undo", "t"), ("standing", "t"))
        home = (9, (2, 0, 0, 0), (0, 0, 0), ((), (), (), ()))
        self.assert_refused(LINE, LINED, home, ("undo", "t"), ("standing", "t"))
        # Ahead of "stopping".
        self.assert_refused(LINE, LINED, STOPPING, ("undo", "u"), ("standing", "u"))

    def test_gone(self):
        self.assert_refused(LINE, LINED, SWEEPING, ("undo", "t"), ("gone", "t"))
        # Ahead of "stopping".
        book = (9, (1, 1), (0, 1, 1, 2, 2, 2), (("sweep", 1, 3), ("stop", 6, 5)))
        self.assert_refused(LOOP, BOTH, book, ("undo", "one"), ("gone", "one"))

    def test_stopping(self):
        # This train itself, another one, and the first one of several.
        self.assert_refused(LINE, LINED, STOPPING, ("undo", "t"), ("stopping", "t"))
        for one, two, first in (
            (("open", 4), ("stop", 6, 5), "two"), (("stop", 4, 3), ("open", 6), "one"),
            (("stop", 4, 3), ("stop", 6, 5), "one"), (("points", (4,), (False,)), ("stop", 6, 5), "two"),
        ):
            book = (6, (1, 1), (1, 1, 1, 2, 2, 2), (one, two))
            self.assert_refused(LOOP, BOTH, book, ("undo", "one"), ("stopping", first))
            self.assert_refused(LOOP, BOTH, book, ("undo", "two"), ("stopping", first))

    def passing_book(self, work, other):
        """t is on its way from a to c, u has come to e or is on its way there."""
        locks = {"a": 1, "q": 1, "m": 1, "r": 1, "c": 1, "e": 2}
        return (9, (2, 1), tuple(locks.get(name, 0) for name, _ in HALT[0]), (work, other))

    def test_knot(self):
        for work in (("points", (7, 8), (True, False)), ("open", 8)):
            book = self.passing_book(work, ())
            self.assert_refused(HALT, PASSING, book, ("undo", "t"), ("knot", ("t", "u")))
            self.assertIs(reason_holds(HALT, PASSING, book, ("go", "u"), ("knot", ("t", "u"))), False)
        # The count with the route is homely, so u can be taken back.
        book = self.passing_book((), ("open", 8))
        self.assertEqual(ordered(HALT, PASSING, book, ("undo", "u"))[0][3], ((), ("stop", 10, 8)))

    def test_stopping_comes_ahead_of_knot(self):
        for work in (("points", (7, 8), (True, False)), ("open", 8)):
            book = self.passing_book(work, ("stop", 9, 6))
            self.assert_refused(HALT, PASSING, book, ("undo", "t"), ("stopping", "u"))
        book = self.passing_book(("stop", 9, 8), ())
        self.assert_refused(HALT, PASSING, book, ("undo", "t"), ("stopping", "t"))


class BadOrdersTest(unittest.TestCase):
    def test_bad_orders(self):
        things = [
            ("go",), ("go", "t", "t"), ("go", "y"), ("stop", "t"), ("Go", "t"), ("", "t"), ("t", "go"), ("go", ""),
            ("open", "t"), ("free", "t"), ("undone", "t"), ("go", "west"), ("go", ("t",)), (("go",), "t"), "go",
            (("go", "t"),), ("order", ("go", "t")), ("row", ("go", "t")), ("tick",), ("go", 0), ("go", None),
            *ANY_VALUES, *wrong_kinds(("go", "t")), *wrong_lengths(("undo", "t"), lambda place: False),
        ]
        for value in ANY_VALUES:
            things += [("go", value), (value, "t")]
        for thing in things:
            arguments = {"plan": LINE, "journeys": LINED, "book": STANDING, "order": thing}
            raises(self, ordered, arguments, BadOrder, thing)
            raises(self, reason_holds, {**arguments, "thing": ("home",)}, BadOrder, thing)


class ReasonsTest(unittest.TestCase):
    def assert_holds(self, order, thing, expected, book=STANDING):
        arguments = {"plan": LINE, "journeys": LINED, "book": book, "order": order, "thing": thing}
        with self.subTest(order=order, thing=thing):
            same_calls(self, reason_holds, arguments, expected)
            self.assertIs(reason_holds(**arguments), expected)

    def test_other_values(self):
        for order, reason in (
            (("go", "v"), ("locked", "a", "t")), (("go", "x"), ("line", "v")), (("undo", "t"), ("standing", "t")),
            (("go", "u"), ("knot", ("t", "u"))),
        ):
            self.assert_holds(order, reason, True)
            for thing in [*wrong_kinds(reason), *wrong_lengths(reason, lambda place: False), *ANY_VALUES]:
                self.assert_holds(order, thing, False)
            for value in ANY_VALUES:
                self.assert_holds(order, changed(reason, (1,), value), value == reason[1])
            self.assert_holds(order, ("refused", reason), False)
            self.assert_holds(order, (("refused", reason),), False)

    def test_near_misses_of_a_knot(self):
        for trains in (("u", "t"), ("t",), ("t", "t"), ("t", "u", "v"), ("t", "v"), ["t", "u"], (), "tu", None, ("t", "u", "u")):
            self.assert_holds(("go", "u"), ("knot", trains), False)

    def test_an_order_that_is_not_refused(self):
        for thing in (None, (), False, True, ("go", ("t",)), ("home",), ("knot", ()), ("knot", ("t", "u")), ("granted",)):
            self.assert_holds(("go", "t"), thing, False)
            self.assert_holds(("undo", "t"), thing, False, UNDER_WAY)

    def test_a_refusal_is_no_reason_later(self):
        refused = ordered(LINE, LINED, NOBODY, ("go", "v"))[1][0][1]
        self.assert_holds(("go", "v"), refused, True, NOBODY)
        self.assert_holds(("go", "v"), refused, False, STANDING)


class PlayedTest(unittest.TestCase):
    def test_orders_to_boxes(self):
        chance = random.Random(61)
        words = []
        for plan, journeys in [*SAMPLES[:11] * 2, *random_samples(60, 62)]:
            if not journeys:
                continue
            play = Play(plan, journeys, chance)
            for _ in range(40):
                order = play.random_order()
                reasons = box_oracle.Box(plan, journeys, play.book).refusals(order)
                found = ordered(plan, journeys, play.book, order)
                if reasons:
                    self.assertEqual(found[0], play.book)
                    self.assertIn(found[1], [(("refused", reason),) for reason in reasons])
                else:
                    self.assertEqual(found, box_oracle.Box(plan, journeys, play.book).order(order))
                for thing in reasons + [("home",), ("standing", order[1]), found[1][0][1]]:
                    self.assertIs(reason_holds(plan, journeys, play.book, order, thing), thing in reasons)
                words.append(reasons[0][0] if reasons else found[1][0][1][0])
                play.go_on()
        for word in ("home", "under way", "stopping", "line", "locked", "knot", "standing", "gone", "go", "undone", "stop"):
            self.assertGreater(words.count(word), 5, word)

    def test_two_orders_in_a_row(self):
        # The second order finds the book of the first one.
        book = begun_book(LINE, FACING)
        for order, count in ((("go", "t"), (1, 0)), (("undo", "t"), (1, 0)), (("undo", "t"), (1, 0)), (("go", "u"), (1, 0))):
            book = ordered(LINE, FACING, book, order)[0]
            self.assertEqual(book[1], count)
        self.assertEqual(book[3], (("stop", 2, 1), ()))
        book = told(LINE, FACING, book, ("signal", "west", 2, 1, False))[0]
        self.assertEqual(ordered(LINE, FACING, book, ("go", "u"))[0][1], (0, 1))


if __name__ == "__main__":
    unittest.main()
