"""[1.2] The texts of plans, and reading them."""

import copy
import unittest

from clearline.errors import BadText
from clearline.plans import plan_text, read_plan
from tests.samples import (
    EMPTY, FAULTY, FULL, FULL_TEXT, GOOD_NAMES, LOOP, LOOP_TEXT, WORDS, WORDS_TEXT, WRONG_NAMES, places, part,
)

FAULTY_TEXT = (
    "stretch a plain\nstretch a points\njoin a 3 z 0\njoin a 0 a 0\ngate a z 3\ngate g a 0\n"
    "signal a y 2 over k 3 3\nsignal a y 2 over k 0 2"
)
PAIRS = ((EMPTY, ""), (LOOP, LOOP_TEXT), (FULL, FULL_TEXT), (WORDS, WORDS_TEXT), (FAULTY, FAULTY_TEXT))
RIGHT_LINES = ("stretch a plain", "join a 1 p 0", "gate west a 0", "signal s a 1", "signal s a 1 over p 0 2")


def shape(value):
    """The classes of all parts of a value of nested tuples: 1 and True are equal, their classes are not."""
    return [type(part(value, place)) for place in places(value)]


class TextsTest(unittest.TestCase):
    def test_texts_of_plans(self):
        for plan, text in PAIRS:
            with self.subTest(text=text):
                self.assertEqual(plan_text(plan), text)
                self.assertEqual(plan_text(plan=plan), text)

    def test_plans_of_texts(self):
        for plan, text in PAIRS:
            with self.subTest(text=text):
                self.assertEqual(read_plan(text), plan)
                self.assertEqual(read_plan(text=text), plan)
                self.assertEqual(shape(read_plan(text)), shape(plan))

    def test_single_lines(self):
        for line, plan in (
            ("stretch a plain", ((("a", "plain"),), (), (), ())),
            ("stretch abcdefg8 points", ((("abcdefg8", "points"),), (), (), ())),
            ("stretch a crossing", ((("a", "crossing"),), (), (), ())),
            ("join a 1 p 0", ((), ((("a", 1), ("p", 0)),), (), ())),
            ("join join 2 join 3", ((), ((("join", 2), ("join", 3)),), (), ())),
            ("gate west a 0", ((), (), (("west", ("a", 0)),), ())),
            ("gate gate gate 3", ((), (), (("gate", ("gate", 3)),), ())),
            ("signal s a 1", ((), (), (), (("s", ("a", 1), ()),))),
            ("signal s a 1 over p 0 2", ((), (), (), (("s", ("a", 1), (("p", 0, 2),)),))),
            ("signal over over 3 over over 2 1", ((), (), (), (("over", ("over", 3), (("over", 2, 1),)),))),
        ):
            with self.subTest(line=line):
                self.assertEqual(read_plan(line), plan)
                self.assertEqual(plan_text(plan), line)

    def test_the_order_of_lines_is_that_of_items(self):
        lines = ["stretch b plain", "stretch a plain", "join b 1 a 0", "join a 1 b 0", "gate z b 0", "gate a a 1"]
        plan = read_plan("\n".join(lines))
        self.assertEqual([name for name, kind in plan[0]], ["b", "a"])
        self.assertEqual(plan[1], ((("b", 1), ("a", 0)), (("a", 1), ("b", 0))))
        self.assertEqual([name for name, end in plan[2]], ["z", "a"])
        self.assertEqual(plan_text(plan), "\n".join(lines))

    def test_asked_again_it_answers_the_same(self):
        self.assertEqual(read_plan(FULL_TEXT), read_plan(FULL_TEXT))
        self.assertEqual(plan_text(FULL), plan_text(FULL))


class WrongTextsTest(unittest.TestCase):
    def assert_wrong(self, text, line):
        for call in (lambda: read_plan(text), lambda: read_plan(text=text)):
            with self.subTest(text=text):
                before = copy.deepcopy(text)
                with self.assertRaises(BadText) as caught:
                    call()
                self.assertEqual(caught.exception.line, line)
                self.assertIs(type(caught.exception.line), int)
                self.assertEqual(text, before)

    def assert_wrong_line(self, line):
        """The line is wrong alone, as the last one and as the first of two wrong ones."""
        if line != "":
            self.assert_wrong(line, 1)
        self.assert_wrong("stretch u plain\n" + line, 2)
        self.assert_wrong("stretch u plain\nstretch v points\n" + line + "\nnothing", 3)

    def test_values_that_are_no_strings(self):
        for thing in (None, True, 0, 1, b"", b"stretch a plain", (), [], {}, ("stretch a plain",), ["stretch a plain"],
                      LOOP, EMPTY, {"stretch a plain": 1}):
            self.assert_wrong(thing, 0)

    def test_blanks(self):
        for line in RIGHT_LINES:
            self.assert_wrong_line(" " + line)
            self.assert_wrong_line(line + " ")
            for at, sign in enumerate(line):
                if sign == " ":
                    self.assert_wrong_line(line[:at] + " " + line[at:])
                    self.assert_wrong_line(line[:at] + line[at + 1:])
                    self.assert_wrong_line(line[:at] + "\t" + line[at + 1:])

    def test_empty_lines(self):
        self.assert_wrong("\n", 1)
        self.assert_wrong(" ", 1)
        self.assert_wrong_line("")
        self.assert_wrong_line(" ")
        self.assert_wrong("\nstretch a plain", 1)
        self.assert_wrong("stretch a plain\n\nstretch b plain", 2)

    def test_a_line_feed_at_the_end(self):
        for plan, text in PAIRS:
            if text:
                self.assert_wrong(text + "\n", text.count("\n") + 2)

    def test_other_ends_of_lines(self):
        for sign in ("\r\n", "\r", "\x0b", "\x0c", "\x1c", "\x85", "\u2028", "\\n"):
            self.assert_wrong("stretch a plain" + sign + "stretch b plain", 1)

    def test_a_word_too_few_or_too_many(self):
        for line in RIGHT_LINES:
            words = line.split(" ")
            for at in range(len(words)):
                less = " ".join(words[:at] + words[at + 1:])
                self.assert_wrong_line(less)
            for word in ("a", "0", "over"):
                for at in range(len(words) + 1):
                    self.assert_wrong_line(" ".join(words[:at] + [word] + words[at:]))

    def test_unfinished_overlaps(self):
        for rest in ("over", "over p", "over p 0", "over p 0 2 1", "over p 0 2 over p 0 2", "ove p 0 2", "p 0 2",
                     "over 0 2", "over p 2"):
            self.assert_wrong_line("signal s a 1 " + rest)

    def test_numbers(self):
        for number in ("4", "-1", "01", "00", "+1", "-0", "1.", "1_", "", "a", "one", "True", "None", "10", "\u0661",
                       "\u00b2", "0x1", "0\r", "012", "12", "9" * 40):
            for line in ("join a {} p 0", "join a 1 p {}", "gate west a {}", "signal s a {}",
                         "signal s a {} over p 0 2", "signal s a 1 over p {} 2", "signal s a 1 over p 0 {}"):
                self.assert_wrong_line(line.format(number))

    def test_each_number_from_0_to_3(self):
        for number in range(4):
            for line in ("join a {} p 0", "join a 1 p {}", "gate west a {}", "signal s a {}",
                         "signal s a {} over p 0 2", "signal s a 1 over p {} 2", "signal s a 1 over p 0 {}"):
                text = line.format(number)
                self.assertEqual(plan_text(read_plan(text)), text)

    def test_names(self):
        for line in ("stretch {} plain", "join {} 1 p 0", "join a 1 {} 0", "gate {} a 0", "gate west {} 0",
                     "signal {} a 1", "signal s {} 1", "signal {} a 1 over p 0 2", "signal s {} 1 over p 0 2",
                     "signal s a 1 over {} 0 2"):
            for name in GOOD_NAMES:
                text = line.format(name)
                self.assertEqual(plan_text(read_plan(text)), text)
            for name in WRONG_NAMES:
                if isinstance(name, str) and "\n" not in name:
                    self.assert_wrong_line(line.format(name))

    def test_kinds_and_first_words(self):
        for kind in ("Plain", "PLAIN", "point", "pointss", "switch", "0", "None", "stretch"):
            self.assert_wrong_line("stretch a " + kind)
        for line in ("Stretch a plain", "track a plain", "plain a plain", "joint a 1 p 0", "gates west a 0", "s",
                     "stretch", "join", "gate", "signal", "over p 0 2", "signals s a 1", "nothing", "0", "a"):
            self.assert_wrong_line(line)

    def test_a_word_of_another_line(self):
        for line in RIGHT_LINES:
            words = line.split(" ")
            for word in ("stretch", "join", "gate", "signal"):
                if word != words[0]:
                    text = " ".join([word] + words[1:])
                    if text != "signal west a 0" and text != "gate s a 1":
                        self.assert_wrong_line(text)

    def test_an_earlier_kind_than_ahead(self):
        lines = ("stretch a plain", "join a 1 p 0", "gate west a 0", "signal s a 1")
        for later in range(4):
            for earlier in range(4):
                text = lines[later] + "\n" + lines[earlier]
                if earlier < later:
                    self.assert_wrong(text, 2)
                    self.assert_wrong(text + "\nnothing", 2)
                    self.assert_wrong(lines[later] + "\n" + text, 3)
                else:
                    self.assertEqual(plan_text(read_plan(text)), text)

    def test_the_first_wrong_line_is_told(self):
        self.assert_wrong("stretch a plain\njoin a 1 b 0\nstretch b plain", 3)
        self.assert_wrong("stretch a plain\njoin a 4 b 0\nstretch b plain", 2)
        self.assert_wrong("stretch a\njoin a 4 b 0\nstretch b plain", 1)
        self.assert_wrong("gate g a 0\njoin a 1 b 0\nnothing\n", 2)
        self.assert_wrong(FULL_TEXT + "\n" + FULL_TEXT, FULL_TEXT.count("\n") + 2)


if __name__ == "__main__":
    unittest.main()
