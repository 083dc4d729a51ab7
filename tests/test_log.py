"""[7.1], [7.2] Rows, the log, and coming up again: is_log, come_up, rows_of, letters_of."""

import random
import unittest

from clearline.box import begun_book, is_book, ordered, ticked, told
from clearline.errors import BadLog
from clearline.log import come_up, is_log, letters_of, rows_of
from tests import box_oracle
from tests.layouts import LINE
from tests.plays import Play, nothing_done
from tests.samples import ANY_VALUES, LOOP, changed, raises, same_calls, wrong_kinds, wrong_lengths
from tests.trains import BOTH, FACING, HALT, LEFT, PASSING, SAMPLES, random_samples

WORDS = ("go", "open", "stop", "sweep", "free", "undone")
# All that one can do on LOOP: its route is opened, stopped too late, and gone; two's route is taken back twice.
WHOLE = (
    ("go", "one"), ("go", "two"), ("open", "two"), ("open", "one"), ("stop", "two"), ("undone", "two"),
    ("stop", "one"), ("sweep", "one"), ("free", "one"), ("go", "two"), ("undone", "two"), ("free", "one"), ("go", "one"),
)


class LogTest(unittest.TestCase):
    def assert_is_log(self, plan, journeys, thing, expected):
        with self.subTest(thing=thing):
            same_calls(self, is_log, {"plan": plan, "journeys": journeys, "thing": thing}, expected)
            self.assertIs(is_log(plan, journeys, thing), expected)
        if not expected:
            raises(self, come_up, {"plan": plan, "journeys": journeys, "log": thing}, BadLog, thing)

    def assert_next(self, plan, journeys, log, *rows):
        """That just these rows can be written behind a log."""
        self.assert_is_log(plan, journeys, log, True)
        for word in WORDS:
            for train, _ in journeys:
                self.assert_is_log(plan, journeys, log + ((word, train),), (word, train) in rows)


class RowsTest(LogTest):
    def test_the_beginning(self):
        for plan, journeys in SAMPLES:
            self.assert_is_log(plan, journeys, (), True)
            self.assertEqual(come_up(plan, journeys, ()), begun_book(plan, journeys))
        self.assert_next(LOOP, BOTH, (), ("go", "one"), ("go", "two"))
        # In a line the first one goes ahead.
        self.assert_next(LOOP, BOTH[:1] + (("x", BOTH[0][1]),), (), ("go", "one"))

    def test_go_if_the_order_is_not_refused(self):
        # Under way; locked; a knot; home.
        self.assert_is_log(LOOP, BOTH, (("go", "one"), ("go", "one")), False)
        self.assert_is_log(LOOP, LEFT, (("go", "one"), ("go", "two")), False)
        standing = (("go", "t"), ("open", "t"), ("sweep", "t"))
        self.assert_next(LINE, FACING, standing, ("go", "t"))
        home = standing + standing + (("free", "t"),) * 3
        self.assert_next(LINE, FACING, home, ("go", "u"))
        self.assert_is_log(LINE, FACING, home[:-1], True)
        self.assert_next(LINE, FACING, home[:-1], ("free", "t"))

    def test_points(self):
        self.assert_next(LOOP, BOTH, (("go", "one"),), ("open", "one"), ("undone", "one"), ("go", "two"))

    def test_open(self):
        log = (("go", "one"), ("open", "one"))
        self.assert_next(LOOP, BOTH, log, ("stop", "one"), ("sweep", "one"), ("go", "two"))

    def test_stop(self):
        # While one train is stopped, no order is granted.
        log = (("go", "one"), ("open", "one"), ("stop", "one"))
        self.assert_next(LOOP, BOTH, log, ("sweep", "one"), ("undone", "one"))
        log = (("go", "one"), ("go", "two"), ("open", "one"), ("stop", "one"))
        self.assert_next(LOOP, BOTH, log, ("sweep", "one"), ("undone", "one"), ("open", "two"))
        log = (("go", "one"), ("go", "two"), ("open", "two"), ("open", "one"), ("stop", "one"))
        self.assert_next(LOOP, BOTH, log, ("sweep", "one"), ("undone", "one"), ("sweep", "two"))

    def test_sweep_and_free(self):
        log = (("go", "one"), ("open", "one"), ("sweep", "one"))
        self.assert_next(LOOP, BOTH, log, ("free", "one"), ("go", "two"))
        self.assert_next(LOOP, BOTH, log + (("free", "one"),), ("free", "one"), ("go", "two"))
        self.assert_next(LOOP, BOTH, log + (("free", "one"),) * 2, ("go", "one"), ("go", "two"))
        # An empty row of sweeping.
        self.assert_is_log(LINE, FACING, (("go", "t"), ("open", "t"), ("sweep", "t"), ("free", "t")), False)

    def test_undone(self):
        self.assert_next(LOOP, BOTH, (("go", "one"), ("undone", "one")), ("go", "one"), ("go", "two"))
        log = (("go", "one"), ("open", "one"), ("stop", "one"), ("undone", "one"))
        self.assert_next(LOOP, BOTH, log, ("go", "one"), ("go", "two"))

    def test_undo_that_would_make_a_knot(self):
        log = (("go", "t"), ("open", "t"), ("sweep", "t"), ("free", "t"), ("free", "t"), ("go", "t"))
        come = (("go", "u"), ("open", "u"), ("sweep", "u"))
        self.assert_is_log(HALT, PASSING, log + (("undone", "t"),), True)
        self.assert_is_log(HALT, PASSING, log + come, True)
        self.assert_is_log(HALT, PASSING, log + come + (("undone", "t"),), False)
        self.assert_is_log(HALT, PASSING, log + come + (("open", "t"),), True)
        self.assert_is_log(HALT, PASSING, log + come + (("open", "t"), ("stop", "t")), False)
        # A stopping that has begun before is not kept from ending, but keeps u from coming in.
        stopping = log + (("open", "t"), ("stop", "t"))
        self.assert_is_log(HALT, PASSING, stopping + (("go", "u"),), False)
        self.assert_is_log(HALT, PASSING, stopping + (("undone", "t"),), True)

    def test_while_another_one_is_stopped_points_stay(self):
        log = (("go", "one"), ("go", "two"), ("open", "one"))
        self.assert_is_log(LOOP, BOTH, log + (("undone", "two"),), True)
        self.assert_is_log(LOOP, BOTH, log + (("stop", "one"), ("undone", "two")), False)

    def test_a_log_with_all_words(self):
        for many in range(len(WHOLE) + 1):
            self.assert_is_log(LOOP, BOTH, WHOLE[:many], True)
        self.assertEqual({word for word, _ in WHOLE}, set(WORDS))

    def test_a_row_left_out_doubled_or_exchanged(self):
        for at in range(len(WHOLE)):
            for log in (
                WHOLE[:at] + WHOLE[at + 1:], WHOLE[:at + 1] + WHOLE[at:],
                WHOLE[:at] + WHOLE[at + 1:at + 2] + WHOLE[at:at + 1] + WHOLE[at + 2:],
            ):
                self.assert_is_log(LOOP, BOTH, log, self.is_right(LOOP, BOTH, log))

    def is_right(self, plan, journeys, log):
        """Whether each row fits the book after the rows before it."""
        for at, row in enumerate(log):
            if not box_oracle.row_fits(plan, journeys, box_oracle.replayed(plan, journeys, log[:at]), *row):
                return False
        return True

    def test_all_rows_behind_logs_of_boxes(self):
        chance = random.Random(81)
        right, wrong = [], []
        for plan, journeys in [*SAMPLES[:11], *random_samples(20, 82)]:
            if not journeys:
                continue
            play = Play(plan, journeys, chance)
            for _ in range(25):
                play.go_on()
                book = come_up(plan, journeys, play.log)
                word, train = chance.choice(WORDS), chance.choice(journeys)[0]
                expected = box_oracle.row_fits(plan, journeys, book, word, train)
                self.assertIs(is_log(plan, journeys, play.log + ((word, train),)), expected)
                (right if expected else wrong).append(word)
        for word in WORDS:
            self.assertGreater(right.count(word), 3, word)
            self.assertGreater(wrong.count(word), 3, word)


class OtherValuesTest(LogTest):
    def test_other_words_and_trains(self):
        for word in ("", "Go", "undo", "order", "tick", "done", "points", "look", "row", "send", None, 0, True, (), "g"):
            self.assert_is_log(LOOP, BOTH, ((word, "one"),), False)
            self.assert_is_log(LOOP, BOTH, WHOLE + ((word, "one"),), False)
        for train in ("three", "", "One", "west", "a", None, 0, True, (), ("one",), ["one"]):
            for word in WORDS:
                self.assert_is_log(LOOP, BOTH, ((word, train),), False)
        self.assert_is_log(LOOP, (), (("go", "one"),), False)

    def test_other_kinds_and_lengths(self):
        for thing in [*wrong_kinds(WHOLE), *wrong_lengths(WHOLE, lambda place: place == ())]:
            self.assert_is_log(LOOP, BOTH, thing, False)
        for more in ("go", ("go",), ("go", "two", "two"), ("row", ("go", "two")), None, (), ["go", "two"]):
            self.assert_is_log(LOOP, BOTH, (more,), False)
            self.assert_is_log(LOOP, BOTH, (("go", "one"), more), False)

    def test_any_values(self):
        for value in ANY_VALUES:
            self.assert_is_log(LOOP, BOTH, value, value == () and type(value) is tuple)
            for place in ((0,), (0, 0), (0, 1), (5,), (5, 0)):
                self.assert_is_log(LOOP, BOTH, changed(WHOLE, place, value), False)
        self.assert_is_log(LOOP, BOTH, ("go", "one"), False)
        self.assert_is_log(LOOP, BOTH, (WHOLE,), False)
        self.assert_is_log(LOOP, BOTH, begun_book(LOOP, BOTH), False)
        self.assert_is_log(LOOP, BOTH, [*WHOLE], False)


class ComeUpTest(LogTest):
    def test_the_numbers_are_the_same(self):
        books = (
            (1, (1, 0), (1, 1, 1, 0, 0, 0), (("points", (1,), (False,)), ())),
            (2, (1, 1), (1, 1, 1, 2, 2, 2), (("points", (1,), (False,)), ("points", (2,), (False,)))),
            (3, (1, 1), (1, 1, 1, 2, 2, 2), (("points", (1,), (False,)), ("open", 3))),
            (4, (1, 1), (1, 1, 1, 2, 2, 2), (("open", 4), ("open", 3))),
            (5, (1, 1), (1, 1, 1, 2, 2, 2), (("open", 4), ("stop", 5, 3))),
            (5, (1, 0), (1, 1, 1, 0, 0, 0), (("open", 4), ())),
            (6, (1, 0), (1, 1, 1, 0, 0, 0), (("stop", 6, 4), ())),
            (7, (1, 0), (1, 1, 1, 0, 0, 0), (("sweep", 0, 7), ())),
            (8, (1, 0), (0, 1, 1, 0, 0, 0), (("sweep", 1, 8), ())),
            (9, (1, 1), (0, 1, 1, 2, 2, 2), (("sweep", 1, 8), ("points", (9,), (False,)))),
            (9, (1, 0), (0, 1, 1, 0, 0, 0), (("sweep", 1, 8), ())),
            (9, (1, 0), (0, 0, 1, 0, 0, 0), ((), ())),
            (10, (2, 0), (0, 0, 1, 0, 1, 1), (("points", (10,), (False,)), ())),
        )
        for many, book in enumerate(books, start=1):
            same_calls(self, come_up, {"plan": LOOP, "journeys": BOTH, "log": WHOLE[:many]}, book)

    def test_it_is_the_book_before_the_fall(self):
        # But for what is done of points, behind each deed; and the box can go on with it.
        chance = random.Random(83)
        undone = 0
        for plan, journeys in [*SAMPLES[:11] * 2, *random_samples(30, 84)]:
            if not journeys:
                continue
            play = Play(plan, journeys, chance)
            for _ in range(40):
                play.go_on()
                book = come_up(plan, journeys, play.log)
                self.assertEqual(book, nothing_done(play.book))
                self.assertIs(is_log(plan, journeys, play.log), True)
                undone += book != play.book
                if chance.random() < 0.2:
                    play.book = book
        self.assertGreater(undone, 20)

    def test_cut_anywhere(self):
        # The rows that a fall cuts off are as if they had never been; what is left is a log.
        chance = random.Random(85)
        for plan, journeys in [*SAMPLES[:11], *random_samples(20, 86)]:
            if not journeys:
                continue
            play = Play(plan, journeys, chance)
            for _ in range(30):
                before = play.log
                play.go_on()
                for many in range(len(before), len(play.log) + 1):
                    log = play.log[:many]
                    book = come_up(plan, journeys, log)
                    self.assertEqual(book, box_oracle.replayed(plan, journeys, log))
                    self.assertIs(is_book(plan, journeys, book), True)
                if len(play.log) > len(before) and chance.random() < 0.3:
                    play.log = play.log[:chance.randint(len(before), len(play.log))]
                    play.book = come_up(plan, journeys, play.log)

    def test_between_go_and_open(self):
        # The number of the opening is given at the next tick.
        book = come_up(LINE, FACING, (("go", "t"),))
        self.assertEqual(book, (0, (1, 0), (1, 1, 0), (("points", (), ()), ())))
        found = ticked(LINE, FACING, book)
        self.assertEqual(found, ordered(LINE, FACING, begun_book(LINE, FACING), ("go", "t"))[:1] + (
            (("row", ("open", "t")), ("send", ("open", "west", 1))),))

    def test_twice_is_the_same_as_once(self):
        first = come_up(LOOP, BOTH, WHOLE)
        self.assertEqual(come_up(LOOP, BOTH, WHOLE), first)
        # Coming up writes no row, so the log that is found the second time is the same.
        self.assertEqual(ticked(LOOP, BOTH, first)[0], first)
        self.assertEqual(rows_of(ticked(LOOP, BOTH, first)[1]), ())

    def test_the_next_tick_sends_all_letters_again(self):
        for many in range(len(WHOLE) + 1):
            book = come_up(LOOP, BOTH, WHOLE[:many])
            letters = letters_of(ticked(LOOP, BOTH, book)[1])
            self.assertEqual(len(letters), len([work for work in book[3] if work]))

    def test_a_long_log(self):
        log = (("go", "one"), ("open", "one"), ("stop", "one"), ("undone", "one")) * 75
        self.assert_is_log(LOOP, BOTH, log, True)
        self.assertEqual(come_up(LOOP, BOTH, log), (225, (0, 0), (0,) * 6, ((), ())))


class DeedsTest(LogTest):
    def test_rows_come_ahead_of_letters(self):
        chance = random.Random(87)
        for plan, journeys in [*SAMPLES[:11], *random_samples(20, 88)]:
            if not journeys:
                continue
            play = Play(plan, journeys, chance)
            for _ in range(40):
                function, passed, before, (_, deeds) = play.go_on()
                if deeds and deeds[0][0] == "refused":
                    continue
                rows, letters = rows_of(deeds), letters_of(deeds)
                self.assertEqual(
                    deeds, tuple(("row", row) for row in rows) + tuple(("send", letter) for letter in letters))
                self.assert_rows(function, passed, before, rows)

    def assert_rows(self, function, passed, before, rows):
        """That these are the words and trains of rows that a call can write."""
        words = [word for word, _ in rows]
        if function is ordered:
            self.assertEqual({train for _, train in rows}, {passed[0][1]})
            possible = (["go"], ["go", "open"]) if passed[0][0] == "go" else (["undone"], ["stop"])
            self.assertIn(words, possible)
        elif function is told:
            possible = {"points": ([], ["open"]), "signal": ([], ["sweep"], ["undone"]), "seen": ([], ["free"])}
            self.assertIn(words, possible[passed[0][0]])
        else:
            self.assertEqual(set(words) - {"open"}, set())

    def test_rows_and_letters(self):
        found = ordered(LINE, FACING, begun_book(LINE, FACING), ("go", "t"))[1]
        same_calls(self, rows_of, {"deeds": found}, (("go", "t"), ("open", "t")))
        same_calls(self, letters_of, {"deeds": found}, (("open", "west", 1),))
        book = (5, (1, 1), (1, 1, 1, 2, 2, 2), (("points", (4,), (True,)), ("points", (5,), (True,))))
        found = ticked(LOOP, BOTH, book)[1]
        same_calls(self, rows_of, {"deeds": found}, (("open", "one"), ("open", "two")))
        same_calls(self, letters_of, {"deeds": found}, (("open", "west", 6), ("open", "east", 7)))
        found = told(LOOP, BOTH, book, ("seen", "a", 1, True))[1]
        same_calls(self, rows_of, {"deeds": found}, ())
        same_calls(self, letters_of, {"deeds": found}, ())


if __name__ == "__main__":
    unittest.main()
