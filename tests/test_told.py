"""[5.3] What an answer tells: letters that are lost, late, doubled and in any order."""

import random
import unittest

from clearline.field import begun_field, hears, lies_now, passes, settles, shows_of
from tests.layouts import LINE, TIPS
from tests.samples import LOOP

POSITIONS = ("left", "right", "between")


class Row:
    """Elements that hear some letters again and again, by chance, and what they have answered."""

    def __init__(self, plan, chance):
        self.plan = plan
        self.chance = chance
        self.starts = [item[0] for item in plan[2] + plan[3]]
        self.points = [name for name, kind in plan[0] if kind == "points"]
        self.field = begun_field(plan, tuple((name, chance.choice(POSITIONS)) for name in self.points))
        self.letters = [self.new_letter(number) for number in range(1, 13) for _ in self.starts + self.points]

    def new_letter(self, number):
        """A letter with this number to any gate, signal or points; some numbers are used twice."""
        name = self.chance.choice(self.starts + self.points)
        if name in self.points:
            return ("throw", name, number, self.chance.choice(("left", "right")))
        return (self.chance.choice(("open", "stop")), name, number)

    def element(self, name):
        """The element of a gate, a signal or points."""
        if name in self.points:
            return self.field[1][self.points.index(name)]
        return self.field[0][self.starts.index(name)]

    def hear(self, letter):
        """Brings a letter, which may have come before and may come again; returns the answer."""
        self.field, answer = hears(self.plan, self.field, (), letter)
        return answer

    def turn(self):
        """Lets a train pass or points settle, by chance."""
        name = self.chance.choice(self.starts + self.points)
        if name in self.points:
            self.field = settles(self.plan, self.field, name)
        elif self.chance.random() < 0.3:
            self.field = passes(self.plan, self.field, name)[0]


class ToldTest(unittest.TestCase):
    def rows(self, seed):
        chance = random.Random(seed)
        for _ in range(25):
            for plan in (LOOP, LINE, TIPS):
                yield Row(plan, chance)

    def test_numbers_up_to_the_last_one_change_nothing(self):
        accepted, refused = 0, 0
        for row in self.rows(13):
            told = {name: 0 for name in row.starts + row.points}
            for _ in range(40):
                letter = row.chance.choice(row.letters)
                name, number = letter[1:3]
                before, element = row.field, row.element(name)
                answer = row.hear(letter)
                self.assertEqual(answer[1:3], (name, max(told[name], number)))
                self.assertEqual(answer[1:], (name,) + self.telling(row, name))
                if number <= told[name]:
                    self.assertEqual(row.field, before)
                    refused += 1
                else:
                    self.assertNotEqual(row.element(name), element)
                    accepted += 1
                told[name] = answer[2]
                row.turn()
        self.assertGreater(accepted, 200)
        self.assertGreater(refused, 200)

    def telling(self, row, name):
        """What an element answers behind its name."""
        element = row.element(name)
        return (element[0], element[2]) if name in row.points else element[:3]

    def test_elements_of_other_names_stay(self):
        for row in self.rows(14):
            for _ in range(10):
                letter = row.chance.choice(row.letters)
                before = {name: row.element(name) for name in row.starts + row.points}
                row.hear(letter)
                after = {name: row.element(name) for name in row.starts + row.points}
                self.assertEqual({**before, letter[1]: None}, {**after, letter[1]: None})

    def test_a_stop_that_is_answered_holds(self):
        # The greatest number was sent with "stop" alone: after its answer the signal never shows go again.
        for row in self.rows(15):
            name = row.chance.choice(row.starts)
            sent = [letter for letter in row.letters if letter[1] == name] + [("open", name, 12), ("stop", name, 13)]
            for letter in row.chance.choices(sent[:-1], k=6):
                row.hear(letter)
                row.turn()
            for _ in range(3):
                _, _, last, opening, passed = row.hear(sent[-1])
                self.assertEqual(last, 13)
                self.assertLess(opening, 13)
                for letter in row.chance.choices(sent, k=6):
                    self.assertEqual(row.hear(letter), ("signal", name, last, opening, passed))
                    self.assertNotIn(name, shows_of(row.plan, row.field))
            row.hear(("open", name, 14))
            self.assertIn(name, shows_of(row.plan, row.field))

    def test_an_opening_is_passed_once(self):
        for row in self.rows(16):
            name = row.chance.choice(row.starts)
            row.hear(("open", name, 20))
            self.assertIn(name, shows_of(row.plan, row.field))
            row.field, answer = passes(row.plan, row.field, name)
            self.assertEqual(answer, ("signal", name, 20, 20, True))
            for letter in row.letters + [("open", name, 20), ("stop", name, 20)]:
                row.hear(letter)
                self.assertNotIn(name, shows_of(row.plan, row.field))
            self.assertEqual(row.hear(("stop", name, 21)), ("signal", name, 21, 20, True))

    def test_points_that_are_answered_with_a_side_lie_so(self):
        for row in self.rows(17):
            if not row.points:
                continue
            name, side = row.chance.choice(row.points), row.chance.choice(("left", "right"))
            for letter in row.chance.choices(row.letters, k=6):
                row.hear(letter)
            answer = row.hear(("throw", name, 13, side))
            if answer[3] == "between":
                self.assertEqual(answer, ("points", name, 13, "between"))
                row.field = settles(row.plan, row.field, name)
                answer = row.hear(("throw", name, 13, side))
            self.assertEqual(answer, ("points", name, 13, side))
            for letter in row.chance.choices(row.letters, k=10):
                row.hear(letter)
                row.turn()
                self.assertEqual(dict(lies_now(row.plan, row.field))[name], side)


if __name__ == "__main__":
    unittest.main()
