"""[6.1] Books: is_book, begun_book, room_of."""

import random
import unittest

from clearline.box import begun_book, is_book, room_of
from clearline.errors import BadTrain
from tests import box_oracle
from tests.layouts import LINE
from tests.plays import books_of
from tests.samples import ANY_VALUES, EMPTY, LOOP, changed, places, part, raises, same_calls, wrong_kinds, wrong_lengths
from tests.trains import BOTH, FACING, SAMPLES, STATION, YARD, YARDERS, path, random_samples

# t goes from west over p (right), b and q (right) to east; it needs two points. u is outside.
THROUGH = (("t", path(LOOP, "west", "east")), ("u", path(LOOP, "west", "sa", "east")))
# The stretches of LOOP are w, p, a, b, q, e; the steps of t are w, p, a or b, q, e.
ALL_OF_T = tuple(1 if name in [step[0] for step in THROUGH[0][1][0][1]] else 0 for name, _ in LOOP[0])
POINTS = (2, (1, 0), ALL_OF_T, (("points", (1, 2), (True, False)), ()))
OPEN = (3, (1, 0), ALL_OF_T, (("open", 3), ()))
STOP = (4, (1, 0), ALL_OF_T, (("stop", 4, 3), ()))
# On LINE (a, o, b): t goes from s, in front of which it stood on a, over o and b.
SWEEP = (5, (2, 0), (1, 1, 1), (("sweep", 0, 5), ()))
STANDING = (2, (1, 0), (1, 1, 0), ((), ()))
# A route that ends at a signal: from west by p to a; there is the berth, which is not swept.
NEXT = (3, (1, 0), (1, 1, 1, 0, 0, 0), (("sweep", 0, 3), ()))
# The route of the yard's t from s over x to t, with the overlap o; c, d and k are free.
YARD_OPEN = (4, (2, 0, 0, 0), (1, 1, 1, 1, 0, 0, 0), (("open", 4), (), (), ()))
BOOKS = (
    (LOOP, THROUGH, POINTS), (LOOP, THROUGH, OPEN), (LOOP, THROUGH, STOP), (LINE, FACING, SWEEP),
    (LINE, FACING, STANDING), (LOOP, BOTH, NEXT), (YARD, YARDERS, YARD_OPEN),
)


class BooksTest(unittest.TestCase):
    def assert_is_book(self, plan, journeys, thing, expected):
        with self.subTest(thing=thing):
            same_calls(self, is_book, {"plan": plan, "journeys": journeys, "thing": thing}, expected)
            self.assertIs(is_book(plan, journeys, thing), expected)

    def assert_no_books(self, plan, journeys, *things):
        for thing in things:
            self.assert_is_book(plan, journeys, thing, False)

    def test_books(self):
        for plan, journeys, book in BOOKS:
            self.assert_is_book(plan, journeys, book, True)
        for plan, journeys in SAMPLES:
            self.assert_is_book(plan, journeys, box_oracle.begun(plan, journeys), True)

    def test_parts_of_another_kind(self):
        for plan, journeys, book in BOOKS:
            self.assert_no_books(plan, journeys, *wrong_kinds(book))

    def test_other_lengths(self):
        for plan, journeys, book in BOOKS:
            # No work at all is a work, too.
            without = [changed(book, (3, at), ()) for at, work in enumerate(book[3]) if work]
            for thing in wrong_lengths(book, lambda place: False):
                self.assert_is_book(plan, journeys, thing, thing in without)

    def test_any_values(self):
        for plan, journeys, book in BOOKS:
            self.assert_no_books(plan, journeys, *ANY_VALUES, plan, journeys, (book,), book[:3], book + ((),))
        for place in places(POINTS):
            for value in ANY_VALUES:
                self.assert_is_book(LOOP, THROUGH, changed(POINTS, place, value), self.fits_points(place, value))

    def fits_points(self, place, value):
        """Whether POINTS with this value at a place is still a book."""
        old = part(POINTS, place)
        if type(value) is not type(old):
            return False
        if isinstance(old, tuple):
            return place[:1] == (3,) and len(place) == 2 and value == ()
        if isinstance(old, str):
            return value == old
        return box_oracle.is_book(LOOP, THROUGH, changed(POINTS, place, value))

    def test_the_number(self):
        for plan, journeys, book in BOOKS:
            for number in (book[0] + 1, book[0] + 1000, 10 ** 9):
                self.assert_is_book(plan, journeys, (number,) + book[1:], True)
            in_use = [
                used for work in book[3] if work
                for used in (work[1] if work[0] == "points" else work[1:] if work[0] != "sweep" else work[2:])
            ]
            for number in range(-2, book[0]):
                expected = number >= max(in_use, default=0)
                self.assert_is_book(plan, journeys, (number,) + book[1:], expected)
        begun = box_oracle.begun(LOOP, BOTH)
        for number in (-1, -(10 ** 9), True, False, None, "0"):
            self.assert_no_books(LOOP, BOTH, (number,) + begun[1:])

    def test_numbers_of_works(self):
        for book, at in ((POINTS, (3, 0, 1, 0)), (POINTS, (3, 0, 1, 1)), (OPEN, (3, 0, 1)), (STOP, (3, 0, 1)),
                         (STOP, (3, 0, 2))):
            for number in range(-1, 7):
                self.assert_is_book(LOOP, THROUGH, changed(book, at, number), 1 <= number <= book[0])
            self.assert_no_books(LOOP, THROUGH, changed(book, at, True), changed(book, at, None))
        for number in range(-1, 7):
            self.assert_is_book(LINE, FACING, changed(SWEEP, (3, 0, 2), number), 1 <= number <= 5)

    def test_the_count(self):
        # What is locked is enough for any of these.
        for count, expected in (
            ((1, 0), True), ((2, 0), True), ((0, 0), True), ((-1, 0), False), ((3, 0), False), ((1,), False),
            ((1, 0, 0), False), ((True, 0), False), ((1, False), False), ([1, 0], False), ((1, 1), False),
        ):
            self.assert_is_book(LINE, FACING, (2, count, (1, 1, 0), ((), ())), expected)

    def test_a_work_with_the_count_0(self):
        for plan, journeys, book in BOOKS[:4]:
            self.assert_no_books(plan, journeys, changed(book, (1, 0), 0))
            self.assert_no_books(plan, journeys, changed(book, (3, 1), book[3][0]))
        self.assert_no_books(LINE, FACING, (1, (0, 0), (0, 0, 0), (("points", (), ()), ())))
        self.assert_is_book(LINE, FACING, (1, (1, 0), (1, 1, 0), (("points", (), ()), ())), True)

    def test_locks(self):
        for locks in (
            (1, 1), (1, 1, 0, 0), (), (1, 1, 3), (1, 1, -1), (1, 1, True), (1, 1, False), [1, 1, 0], (1, 1, "t"),
            (1, 1, None), ("t", "t", ""), (1, 1, (0,)), {0: 1, 1: 1, 2: 0},
        ):
            self.assert_no_books(LINE, FACING, (2, (1, 0), locks, ((), ())))
        # More may be locked than what is held.
        for lock in (0, 1, 2):
            self.assert_is_book(LINE, FACING, (2, (1, 0), (1, 1, lock), ((), ())), True)

    def test_what_is_held_is_locked_for_its_train(self):
        for locks in ((0, 1, 0), (1, 0, 0), (0, 0, 0), (2, 1, 0), (1, 2, 0), (2, 2, 0)):
            self.assert_no_books(LINE, FACING, (2, (1, 0), locks, ((), ())))
        self.assert_is_book(LINE, FACING, (2, (1, 1), (1, 1, 2), ((), ())), True)
        self.assert_no_books(LINE, FACING, (2, (1, 1), (1, 1, 1), ((), ())), (2, (1, 1), (1, 1, 0), ((), ())))
        # The berth of the route under way, and its overlap, are held already.
        for stretch in range(4):
            self.assert_no_books(YARD, YARDERS, changed(YARD_OPEN, (2, stretch), 0))
        sweep = (5, (2, 0, 0, 0), (0, 1, 1, 1, 0, 0, 0), (("sweep", 1, 5), (), (), ()))
        self.assert_is_book(YARD, YARDERS, sweep, True)
        for stretch in (1, 2, 3):
            self.assert_no_books(YARD, YARDERS, changed(sweep, (2, stretch), 0), changed(sweep, (2, stretch), 2))

    def test_works_need_what_is_locked(self):
        for book in (POINTS, OPEN, STOP):
            for stretch, lock in enumerate(ALL_OF_T):
                if lock:
                    self.assert_no_books(
                        LOOP, THROUGH, changed(book, (2, stretch), 0), changed(book, (2, stretch), 2))
                else:
                    self.assert_is_book(LOOP, THROUGH, changed(book, (2, stretch), 2), True)
        # The berth in which the train stood is needed, too, though the route does not need it.
        for work in (("points", (), ()), ("open", 4), ("stop", 4, 3)):
            book = (5, (2, 0), (1, 1, 1), (work, ()))
            self.assert_is_book(LINE, FACING, book, True)
            for stretch in range(3):
                for lock in (0, 2):
                    self.assert_no_books(LINE, FACING, changed(book, (2, stretch), lock))

    def test_places_of_the_sweep(self):
        # The row is a, where the train stood, then o and b, as the route ends at a gate.
        for at in range(3):
            locks = (1, 1, 1)
            for stretch in range(3):
                for lock in (0, 2):
                    book = (5, (2, 0), changed(locks, (stretch,), lock), (("sweep", at, 5), ()))
                    self.assert_is_book(LINE, FACING, book, stretch < at)
        for at in (-1, 3, 4, 10 ** 9, True, False, None, "0", (0,)):
            self.assert_no_books(LINE, FACING, changed(SWEEP, (3, 0, 1), at))
        # The row is w and p: the berth is not swept.
        for at, expected in ((0, True), (1, True), (2, False), (3, False), (-1, False)):
            self.assert_is_book(LOOP, BOTH, changed(NEXT, (3, 0, 1), at), expected)
        # The row is empty.
        book = (1, (1, 0), (1, 1, 0), (("sweep", 0, 1), ()))
        self.assert_no_books(LINE, FACING, book)

    def test_points_of_another_number(self):
        for numbers, done in (
            ((1,), (True,)), ((1, 2), (True,)), ((1,), (True, False)), ((), ()), ((1, 2, 2), (True, False, False)),
            ((1, 2), (True, 0)), ((1, 2), (1, 0)), ((1, 2), (None, False)), ((True, 2), (True, False)), ([1, 2], (True, False)),
            ((1, 2), [True, False]), ((1, 2), ("left", "left")),
        ):
            self.assert_no_books(LOOP, THROUGH, changed(POINTS, (3, 0), ("points", numbers, done)))
        for numbers, done in (((1, 1), (True, True)), ((2, 1), (False, False)), ((2, 2), (False, True))):
            self.assert_is_book(LOOP, THROUGH, changed(POINTS, (3, 0), ("points", numbers, done)), True)

    def test_other_words_and_lengths_of_works(self):
        for word in ("", "go", "Open", "opened", "opening", "throw", "look", "free", "undone", "home", None, 0, True, ()):
            for work in ((word,), (word, 1), (word, 1, 1), (word, (1, 2), (True, False))):
                self.assert_no_books(LOOP, THROUGH, changed(OPEN, (3, 0), work))
        for work in (
            ("open",), ("open", 3, 3), ("stop",), ("stop", 3), ("stop", 3, 3, 3), ("sweep",), ("sweep", 0),
            ("sweep", 0, 3, 3), ("points",), ("points", (1, 2)), ("points", (1, 2), (True, False), ()),
            ["open", 3], "open", ("open", (3,)), {"open": 3}, (("open", 3),), None, 0, False, "", [], {},
        ):
            self.assert_no_books(LOOP, THROUGH, changed(OPEN, (3, 0), work))

    def test_works_of_other_lengths(self):
        for works in ((), ((),), ((), (), ()), [(), ()], ((), None), ((), []), {}):
            self.assert_no_books(LINE, FACING, (2, (1, 0), (1, 1, 0), works))

    def test_books_of_boxes(self):
        chance = random.Random(51)
        for plan, journeys in [*SAMPLES[:11], *random_samples(20, 52)]:
            if journeys:
                for book in books_of(plan, journeys, chance, 40):
                    self.assertIs(is_book(plan, journeys, book), True)
                    self.assertIs(box_oracle.is_book(plan, journeys, book), True)

    def test_books_with_a_part_changed(self):
        chance = random.Random(53)
        right, wrong = 0, 0
        for plan, journeys in [(LOOP, BOTH), (LINE, FACING), (YARD, YARDERS), *SAMPLES[:3], *random_samples(20, 54)]:
            for book in books_of(plan, journeys, chance, 40):
                for _ in range(8):
                    place = chance.choice(list(places(book)))
                    old = part(book, place)
                    if isinstance(old, bool):
                        other = changed(book, place, not old)
                    elif isinstance(old, int):
                        other = changed(book, place, old + chance.choice((-2, -1, 1, 2)))
                    else:
                        continue
                    expected = box_oracle.is_book(plan, journeys, other)
                    self.assertIs(is_book(plan, journeys, other), expected, other)
                    right, wrong = right + expected, wrong + (not expected)
        self.assertGreater(right, 200)
        self.assertGreater(wrong, 200)


class BegunTest(unittest.TestCase):
    def test_at_the_beginning(self):
        for plan, journeys in SAMPLES:
            begun = (0, (0,) * len(journeys), (0,) * len(plan[0]), ((),) * len(journeys))
            same_calls(self, begun_book, {"plan": plan, "journeys": journeys}, begun)
        same_calls(self, begun_book, {"plan": EMPTY, "journeys": ()}, (0, (), (), ()))
        same_calls(self, begun_book, {"plan": LINE, "journeys": FACING}, (0, (0, 0), (0, 0, 0), ((), ())))


class RoomTest(unittest.TestCase):
    def assert_room(self, plan, journeys, book, train, room):
        same_calls(self, room_of, {"plan": plan, "journeys": journeys, "book": book, "train": train}, room)

    def test_rooms(self):
        self.assert_room(LINE, FACING, STANDING, "t", ("a", "o"))
        self.assert_room(LINE, FACING, STANDING, "u", ())
        self.assert_room(LINE, FACING, (2, (1, 1), (1, 1, 2), ((), ())), "u", ("b",))
        self.assert_room(LOOP, THROUGH, OPEN, "t", tuple(sorted(step[0] for step in THROUGH[0][1][0][1])))
        # What is locked and neither held nor needed belongs to the room, too.
        self.assert_room(LINE, FACING, (2, (0, 2), (2, 1, 2), ((), ())), "t", ("o",))
        self.assert_room(LINE, FACING, (2, (0, 2), (2, 1, 2), ((), ())), "u", ("a", "b"))

    def test_rooms_are_ascending(self):
        # In the plan, the stretches stand in another order: w, p, a, ...
        self.assert_room(LOOP, BOTH, NEXT, "one", ("a", "p", "w"))
        table = (3, (1, 0, 0, 0), tuple(1 for _ in STATION[0]), ((), (), (), ()))
        journeys = tuple((name, path(STATION, "west", "ae", "ce", "east")) for name in "abcd")
        self.assert_room(STATION, journeys, table, "a", tuple(sorted(name for name, _ in STATION[0])))

    def test_bad_trains(self):
        for train in ["v", "", "T", "west", "a", 0, 1, *ANY_VALUES]:
            raises(self, room_of, {"plan": LINE, "journeys": FACING, "book": STANDING, "train": train}, BadTrain, train)


if __name__ == "__main__":
    unittest.main()
