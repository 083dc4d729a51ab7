"""The examples of the document, as they stand there, and those of README.md."""

import doctest
import pathlib
import unittest

from clearline.checker import at_end, fault, joined_to
from clearline.errors import BadText
from clearline.plans import plan_text, read_plan

TEXT = 'stretch w plain\nstretch p points\nstretch a plain\nstretch b plain\nstretch q points\nstretch e plain\njoin w 1 p 0\njoin p 1 a 0\njoin p 2 b 0\njoin a 1 q 1\njoin b 1 q 2\njoin q 0 e 0\ngate west w 0\ngate east e 1\nsignal sa a 1\nsignal sb b 0'


class Part1Test(unittest.TestCase):
    def test_reading_and_writing(self):
        LOOP = read_plan(TEXT)
        self.assertEqual(
            [LOOP[0][1], LOOP[1][0], LOOP[2], LOOP[3], plan_text(LOOP) == TEXT, read_plan('')],
            [('p', 'points'), (('w', 1), ('p', 0)), (('west', ('w', 0)), ('east', ('e', 1))), (('sa', ('a', 1), ()), ('sb', ('b', 0), ())), True, ((), (), (), ())],
        )

    def test_a_wrong_line(self):
        with self.assertRaises(BadText) as caught:
            read_plan('stretch a plain\njoin a 1 b 0\nstretch b plain')
        self.assertEqual(caught.exception.line, 3)


class Part2Test(unittest.TestCase):
    def test_the_checker(self):
        LOOP = read_plan(TEXT)
        self.assertEqual(
            [fault(LOOP), joined_to(LOOP, ('p', 2)), joined_to(LOOP, ('w', 0)), at_end(LOOP, ('a', 1)), at_end(LOOP, ('e', 1)), at_end(LOOP, ('q', 0)), fault(read_plan('stretch a plain\nstretch b plain\njoin a 1 b 0\nsignal s a 1 over b 1 0'))],
            [None, ('b', 0), None, ('signal', 'sa'), ('gate', 'east'), None, ('overlap', 's')],
        )


class ReadmeTest(unittest.TestCase):
    def test_the_examples_of_the_readme(self):
        readme = pathlib.Path(__file__).resolve().parent.parent / "README.md"
        failed, tried = doctest.testfile(str(readme), module_relative=False)
        self.assertEqual(failed, 0)
        self.assertGreater(tried, 0)


if __name__ == "__main__":
    unittest.main()
