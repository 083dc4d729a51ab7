"""[6.3] Under way: told, ticked."""

import random
import unittest

from clearline.box import begun_book, is_book, ordered, ticked, told
from clearline.errors import BadAnswer
from clearline.log import letters_of, rows_of
from tests import box_oracle
from tests.layouts import LINE
from tests.plays import Play
from tests.samples import ANY_VALUES, LOOP, changed, raises, same_calls, wrong_kinds, wrong_lengths
from tests.trains import BOTH, FACING, FOUR, LOOP_TABLE, SAMPLES, STATION, path, random_samples

# one goes from west over p, left, to sa; two goes from east over q, right, to sb.
ONE = (1, 1, 1, 0, 0, 0)
POINTS = (5, (1, 0), ONE, (("points", (5,), (False,)), ()))
OPEN = (6, (1, 0), ONE, (("open", 6), ()))
STOP = (9, (1, 0), ONE, (("stop", 8, 6), ()))
SWEEP = (7, (1, 0), ONE, (("sweep", 0, 7), ()))
LAST = (8, (1, 0), (0, 1, 1, 0, 0, 0), (("sweep", 1, 8), ()))
OVER = (8, (1, 0), (0, 0, 1, 0, 0, 0), ((), ()))
TAKEN_BACK = (9, (0, 0), (0,) * 6, ((), ()))
# east1 goes from ae over q and r, both left, to ce.
TWO_POINTS = (
    5, (2, 0, 0, 0), (0, 0, 1, 0, 1, 1, 1, 1, 0, 0, 0), (("points", (4, 5), (False, False)), (), (), ()),
)


class WorksTest(unittest.TestCase):
    def assert_told(self, plan, journeys, book, answer, after, *deeds):
        self.assertIs(is_book(plan, journeys, book), True, book)
        self.assertIs(is_book(plan, journeys, after), True, after)
        with self.subTest(book=book, answer=answer):
            arguments = {"plan": plan, "journeys": journeys, "book": book, "answer": answer}
            same_calls(self, told, arguments, (after, deeds))

    def assert_nothing(self, plan, journeys, book, *answers):
        for answer in answers:
            self.assert_told(plan, journeys, book, answer, book)

    def assert_ticked(self, plan, journeys, book, after, *deeds):
        self.assertIs(is_book(plan, journeys, book), True, book)
        with self.subTest(book=book):
            same_calls(self, ticked, {"plan": plan, "journeys": journeys, "book": book}, (after, deeds))

    def signal_answers(self):
        """Answers of the gate west with numbers around those of the works."""
        numbers = range(11)
        return [("signal", "west", last, opening, passed) for last in numbers for opening in numbers for passed in (0, 1)]


class PointsTest(WorksTest):
    def test_the_last_points(self):
        for last in (5, 6, 10 ** 9):
            self.assert_told(
                LOOP, BOTH, POINTS, ("points", "p", last, "left"), OPEN,
                ("row", ("open", "one")), ("send", ("open", "west", 6)))

    def test_an_earlier_number(self):
        self.assert_nothing(LOOP, BOTH, POINTS, *[("points", "p", last, "left") for last in range(5)])

    def test_another_lie(self):
        self.assert_nothing(LOOP, BOTH, POINTS, ("points", "p", 5, "right"), ("points", "p", 5, "between"))

    def test_another_element(self):
        self.assert_nothing(LOOP, BOTH, POINTS, ("points", "q", 5, "left"), ("points", "q", 6, "right"))
        # No points at all.
        self.assert_nothing(
            LOOP, BOTH, POINTS, ("signal", "west", 5, 5, True), ("signal", "sa", 5, 5, True), ("seen", "p", 5, True),
            ("seen", "w", 5, True))

    def test_one_after_the_other(self):
        for first, second, done in (("q", "r", (True, False)), ("r", "q", (False, True))):
            numbers = {"q": 4, "r": 5}
            after = changed(TWO_POINTS, (3, 0, 2), done)
            self.assert_told(STATION, FOUR, TWO_POINTS, ("points", first, numbers[first], "left"), after)
            # Once more, and too early, changes nothing more.
            self.assert_nothing(
                STATION, FOUR, after, ("points", first, numbers[first], "left"), ("points", first, 9, "left"),
                ("points", second, numbers[second] - 1, "left"), ("points", second, numbers[second], "right"),
                ("points", second, numbers[second], "between"), ("points", first, 9, "right"))
            self.assert_told(
                STATION, FOUR, after, ("points", second, numbers[second], "left"),
                (6, *TWO_POINTS[1:3], (("open", 6), (), (), ())),
                ("row", ("open", "east1")), ("send", ("open", "ae", 6)))

    def test_each_points_have_their_own_number(self):
        self.assert_nothing(STATION, FOUR, TWO_POINTS, ("points", "r", 4, "left"), ("points", "q", 3, "left"))

    def test_all_done_already(self):
        # No box comes to this; the next tick opens.
        book = changed(POINTS, (3, 0, 2), (True,))
        self.assert_nothing(LOOP, BOTH, book, ("points", "p", 5, "left"), ("points", "p", 6, "left"))
        self.assert_ticked(
            LOOP, BOTH, book, OPEN, ("row", ("open", "one")), ("send", ("open", "west", 6)))

    def test_behind_the_opening(self):
        for book in (OPEN, STOP, SWEEP, LAST, OVER):
            self.assert_nothing(LOOP, BOTH, book, *[
                ("points", name, last, lie) for name in "pq" for last in (5, 6, 9) for lie in ("left", "right", "between")])

    def test_only_the_work_that_waits_for_it(self):
        both = (5, (1, 1), (1, 1, 1, 2, 2, 2), (("points", (4,), (False,)), ("points", (5,), (False,))))
        self.assert_told(
            LOOP, BOTH, both, ("points", "q", 5, "right"),
            (6, *both[1:3], (("points", (4,), (False,)), ("open", 6))),
            ("row", ("open", "two")), ("send", ("open", "east", 6)))
        self.assert_told(
            LOOP, BOTH, both, ("points", "p", 5, "left"),
            (6, *both[1:3], (("open", 6), ("points", (5,), (False,)))),
            ("row", ("open", "one")), ("send", ("open", "west", 6)))


class OpenTest(WorksTest):
    def test_passed(self):
        for last in (6, 7, 10 ** 9):
            self.assert_told(
                LOOP, BOTH, OPEN, ("signal", "west", last, 6, True), SWEEP,
                ("row", ("sweep", "one")), ("send", ("look", "w", 7)))

    def test_whatever_else_is_answered(self):
        for word, name, last, opening, passed in self.signal_answers():
            if opening != 6 or not passed:
                self.assert_nothing(LOOP, BOTH, OPEN, (word, name, last, opening, bool(passed)))
        self.assert_nothing(
            LOOP, BOTH, OPEN, ("signal", "east", 6, 6, True), ("signal", "sa", 6, 6, True), ("seen", "w", 6, True),
            ("points", "p", 6, "left"))

    def test_an_empty_row_of_sweeping(self):
        book = (1, (1, 0), (1, 1, 0), (("open", 1), ()))
        over = (1, (1, 0), (1, 1, 0), ((), ()))
        self.assert_told(LINE, FACING, book, ("signal", "west", 1, 1, True), over, ("row", ("sweep", "t")))
        self.assert_nothing(LINE, FACING, over, ("signal", "west", 1, 1, True))
        # Also while it is being stopped.
        book = (2, (1, 0), (1, 1, 0), (("stop", 2, 1), ()))
        over = (2, (1, 0), (1, 1, 0), ((), ()))
        self.assert_told(LINE, FACING, book, ("signal", "west", 2, 1, True), over, ("row", ("sweep", "t")))

    def test_from_a_signal(self):
        book = (2, (2, 0), (1, 1, 1), (("open", 2), ()))
        after = (3, (2, 0), (1, 1, 1), (("sweep", 0, 3), ()))
        self.assert_nothing(LINE, FACING, book, ("signal", "s", 2, 2, False), ("signal", "west", 2, 2, True))
        self.assert_told(
            LINE, FACING, book, ("signal", "s", 2, 2, True), after, ("row", ("sweep", "t")), ("send", ("look", "a", 3)))


class StopTest(WorksTest):
    def test_stopped(self):
        # With another opening it does not matter whether something has passed.
        for last in (8, 9, 10 ** 9):
            for opening, passed in ((6, False), (5, True), (5, False), (0, False), (7, True), (8, True)):
                self.assert_told(
                    LOOP, BOTH, STOP, ("signal", "west", last, opening, passed), TAKEN_BACK, ("row", ("undone", "one")))

    def test_passed_before(self):
        # Also by an answer that was on its way before the letter was heard.
        after = (10, (1, 0), ONE, (("sweep", 0, 10), ()))
        for last in (6, 7, 8, 9):
            self.assert_told(
                LOOP, BOTH, STOP, ("signal", "west", last, 6, True), after,
                ("row", ("sweep", "one")), ("send", ("look", "w", 10)))

    def test_not_stopped_yet(self):
        for word, name, last, opening, passed in self.signal_answers():
            if last < 8 and not (opening == 6 and passed):
                self.assert_nothing(LOOP, BOTH, STOP, (word, name, last, opening, bool(passed)))
        self.assert_nothing(
            LOOP, BOTH, STOP, ("signal", "east", 8, 6, False), ("signal", "sa", 9, 6, True), ("points", "p", 9, "left"),
            ("seen", "w", 8, True), ("seen", "a", 8, True))

    def test_what_is_held_remains_locked(self):
        book = (3, (2, 0), (1, 1, 1), (("stop", 3, 2), ()))
        self.assert_told(
            LINE, FACING, book, ("signal", "s", 3, 2, False), (3, (1, 0), (1, 1, 0), ((), ())),
            ("row", ("undone", "t")))


class SweepTest(WorksTest):
    def test_place_by_place(self):
        self.assert_told(
            LOOP, BOTH, SWEEP, ("seen", "w", 7, True), LAST, ("row", ("free", "one")), ("send", ("look", "p", 8)))
        self.assert_told(LOOP, BOTH, LAST, ("seen", "p", 8, True), OVER, ("row", ("free", "one")))

    def test_other_answers(self):
        for book, stretch, number in ((SWEEP, "w", 7), (LAST, "p", 8)):
            for name, _ in LOOP[0]:
                for used in range(1, 11):
                    for free in (True, False):
                        if (name, used, free) != (stretch, number, True):
                            self.assert_nothing(LOOP, BOTH, book, ("seen", name, used, free))
            self.assert_nothing(
                LOOP, BOTH, book, ("signal", "west", 9, 6, True), ("signal", "west", 9, number, True),
                ("points", "p", number, "left"))

    def test_from_a_signal_to_a_gate(self):
        # First the berth, then the steps, the last one too.
        book = (3, (2, 0), (1, 1, 1), (("sweep", 0, 3), ()))
        for stretch, number, after, letters in (
            ("a", 3, (4, (2, 0), (0, 1, 1), (("sweep", 1, 4), ())), (("send", ("look", "o", 4)),)),
            ("o", 4, (5, (2, 0), (0, 0, 1), (("sweep", 2, 5), ())), (("send", ("look", "b", 5)),)),
            ("b", 5, (5, (2, 0), (0, 0, 0), ((), ())), ()),
        ):
            self.assert_told(
                LINE, FACING, book, ("seen", stretch, number, True), after, ("row", ("free", "t")), *letters)
            # A letter that comes twice finds another number.
            self.assert_nothing(LINE, FACING, after, ("seen", stretch, number, True))
            book = after

    def test_what_else_is_locked_remains(self):
        book = (7, (1, 0), (1, 1, 1, 1, 0, 2), (("sweep", 0, 7), ()))
        self.assert_told(
            LOOP, BOTH, book, ("seen", "w", 7, True), (8, (1, 0), (0, 1, 1, 1, 0, 2), (("sweep", 1, 8), ())),
            ("row", ("free", "one")), ("send", ("look", "p", 8)))


class NothingTest(WorksTest):
    def test_no_work(self):
        for book in (OVER, TAKEN_BACK, begun_book(LOOP, BOTH), (9, (2, 2), (0,) * 6, ((), ()))):
            for number in (1, 8, 9):
                self.assert_nothing(
                    LOOP, BOTH, book, ("signal", "west", number, number, True), ("signal", "sa", number, number, False),
                    ("seen", "w", number, True), ("seen", "a", number, True), ("points", "p", number, "left"))
        self.assert_nothing(LOOP, (), begun_book(LOOP, ()), ("signal", "west", 1, 1, True))

    def test_bad_answers(self):
        right = [("signal", "west", 6, 6, True), ("points", "p", 5, "left"), ("seen", "w", 7, True)]
        things = [*ANY_VALUES, ("open", "west", 6), ("look", "w", 7), ("throw", "p", 5, "left")]
        for answer in right:
            things += [*wrong_kinds(answer), *wrong_lengths(answer, lambda place: False)]
        things += [
            ("signal", "w", 6, 6, True), ("signal", "west", -1, 6, True), ("signal", "west", 6, -1, True),
            ("points", "w", 5, "left"), ("points", "p", -1, "left"), ("points", "p", 5, "wrong"),
            ("seen", "west", 7, True), ("seen", "w", 0, True), ("Seen", "w", 7, True), ("", "w", 7, True),
            (right[0],), ("answer", right[0]), ("send", right[0]),
        ]
        for thing in things:
            raises(self, told, {"plan": LOOP, "journeys": BOTH, "book": OPEN, "answer": thing}, BadAnswer, thing)


class TickTest(WorksTest):
    def test_letters_of_each_work(self):
        for book, letter in (
            (POINTS, ("throw", "p", 5, "left")), (OPEN, ("open", "west", 6)), (STOP, ("stop", "west", 8)),
            (SWEEP, ("look", "w", 7)), (LAST, ("look", "p", 8)),
        ):
            self.assert_ticked(LOOP, BOTH, book, book, ("send", letter))
            self.assertEqual(ticked(LOOP, BOTH, ticked(LOOP, BOTH, book)[0]), ticked(LOOP, BOTH, book))

    def test_no_works(self):
        for plan, journeys in SAMPLES:
            begun = begun_book(plan, journeys)
            self.assert_ticked(plan, journeys, begun, begun)
        self.assert_ticked(LOOP, BOTH, OVER, OVER)

    def test_points_that_are_done_are_not_thrown_again(self):
        book = TWO_POINTS
        self.assert_ticked(
            STATION, FOUR, book, book, ("send", ("throw", "q", 4, "left")), ("send", ("throw", "r", 5, "left")))
        book = changed(TWO_POINTS, (3, 0, 2), (True, False))
        self.assert_ticked(STATION, FOUR, book, book, ("send", ("throw", "r", 5, "left")))

    def test_a_granted_route_without_points(self):
        # A fall came between the rows "go" and "open".
        book = (4, (2, 0), (1, 1, 1), (("points", (), ()), ()))
        after = (5, (2, 0), (1, 1, 1), (("open", 5), ()))
        self.assert_ticked(LINE, FACING, book, after, ("row", ("open", "t")), ("send", ("open", "s", 5)))
        self.assert_nothing(LINE, FACING, book, ("signal", "s", 5, 5, True), ("signal", "west", 4, 4, True))

    def test_all_works_in_order(self):
        journeys = (
            ("d", path(LOOP, "west", "sa", "east")), ("c", path(LOOP, "east", "sb", "west")),
            ("b", (LOOP_TABLE[1],)), ("a", path(LOOP, "west", "sa", "east")),
        )
        book = (6, (1, 1, 0, 0), (1, 1, 1, 2, 2, 2), (("points", (3,), (True,)), ("sweep", 0, 6), (), ()))
        after = (7, *book[1:3], (("open", 7), ("sweep", 0, 6), (), ()))
        self.assert_ticked(
            LOOP, journeys, book, after,
            ("row", ("open", "d")), ("send", ("open", "west", 7)), ("send", ("look", "e", 6)))

    def test_rows_of_all_works_ahead_of_the_letters(self):
        both = (5, (1, 1), (1, 1, 1, 2, 2, 2), (("points", (4,), (True,)), ("points", (5,), (True,))))
        self.assert_ticked(
            LOOP, BOTH, both, (7, *both[1:3], (("open", 6), ("open", 7))),
            ("row", ("open", "one")), ("row", ("open", "two")),
            ("send", ("open", "west", 6)), ("send", ("open", "east", 7)))
        # The first one is not done.
        half = changed(both, (3, 0, 2), (False,))
        self.assert_ticked(
            LOOP, BOTH, half, (6, *both[1:3], (("points", (4,), (False,)), ("open", 6))),
            ("row", ("open", "two")), ("send", ("throw", "p", 4, "left")), ("send", ("open", "east", 6)))


class PlayedTest(unittest.TestCase):
    def test_boxes(self):
        chance = random.Random(71)
        words = []
        for plan, journeys in [*SAMPLES[:11] * 3, *random_samples(60, 72)]:
            if not journeys:
                continue
            play = Play(plan, journeys, chance)
            for _ in range(50):
                function, passed, before, found = play.go_on()
                other = box_oracle.Box(plan, journeys, before)
                if function is told:
                    self.assertEqual(found, other.told(*passed))
                elif function is ticked:
                    self.assertEqual(found, other.tick())
                elif found[1][:1] and found[1][0][0] != "refused":
                    self.assertEqual(found, other.order(*passed))
                self.assertIs(is_book(plan, journeys, found[0]), True)
                if function is told and found[0] != before:
                    words.append(rows_of(found[1])[0][0] if found[1] else "done")
        for word in ("open", "sweep", "free", "undone", "done"):
            self.assertGreater(words.count(word), 10, word)

    def test_answers_that_come_late_twice_or_never_change_nothing_more(self):
        # Whatever has been answered is told again at the end: the work that it was for has gone on.
        chance = random.Random(73)
        again = 0
        for plan, journeys in [*SAMPLES[:11] * 2, *random_samples(30, 74)]:
            if not journeys:
                continue
            play, used = Play(plan, journeys, chance), []
            for _ in range(60):
                function, passed, before, found = play.go_on()
                # An element has no greater number than the box has used.
                if function is told and found[1] and passed[0][2] <= before[0]:
                    used.append(passed[0])
                for answer in used:
                    again += 1
                    self.assertEqual(told(plan, journeys, play.book, answer), (play.book, ()))
        self.assertGreater(again, 1000)

    def test_letters_are_sent_when_a_work_begins_and_again_at_each_tick(self):
        chance = random.Random(75)
        for plan, journeys in [*SAMPLES[:11] * 2, *random_samples(20, 76)]:
            if not journeys:
                continue
            play, waiting = Play(plan, journeys, chance), ()
            for _ in range(40):
                function, _, before, found = play.go_on()
                sent = letters_of(found[1]) if found[1][:1] and found[1][0][0] != "refused" else ()
                now = letters_of(ticked(plan, journeys, play.book)[1])
                # What the works send now, they have sent before, or this moment.
                self.assertLessEqual(set(now), set(waiting) | set(sent))
                self.assertLessEqual(set(sent), set(now))
                waiting = now

    def test_numbers_go_up_one_by_one(self):
        chance = random.Random(77)
        for plan, journeys in random_samples(30, 78):
            play = Play(plan, journeys, chance)
            for _ in range(40):
                function, _, before, found = play.go_on()
                mine = [number for work in found[0][3] for number in self.numbers(work)]
                old = [number for work in before[3] for number in self.numbers(work)]
                new = [number for number in mine if number > before[0]]
                self.assertEqual(sorted(new), list(range(before[0] + 1, found[0][0] + 1)))
                self.assertEqual([number for number in mine if number <= before[0] and number not in old], [])

    def numbers(self, work):
        """The numbers of the letters of a work."""
        if not work:
            return []
        return list(work[1]) if work[0] == "points" else [work[2] if work[0] == "sweep" else work[1]]


class GoneTest(unittest.TestCase):
    def test_from_the_first_order_to_the_last_stretch(self):
        book, letters = begun_book(LOOP, BOTH), []
        for call, passed in (
            (ordered, ("go", "one")), (told, ("points", "p", 1, "left")), (told, ("signal", "west", 2, 2, True)),
            (told, ("seen", "w", 3, True)), (told, ("seen", "p", 4, True)), (ordered, ("go", "one")),
            (told, ("points", "q", 5, "left")), (told, ("signal", "sa", 6, 6, True)), (told, ("seen", "a", 7, True)),
            (told, ("seen", "q", 8, True)), (told, ("seen", "e", 9, True)),
        ):
            book, deeds = call(LOOP, BOTH, book, passed)
            letters += letters_of(deeds)
        self.assertEqual(book, (9, (2, 0), (0,) * 6, ((), ())))
        self.assertEqual(letters, [
            ("throw", "p", 1, "left"), ("open", "west", 2), ("look", "w", 3), ("look", "p", 4), ("throw", "q", 5, "left"),
            ("open", "sa", 6), ("look", "a", 7), ("look", "q", 8), ("look", "e", 9)])


if __name__ == "__main__":
    unittest.main()
