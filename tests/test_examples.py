"""The examples of the document, as they stand there, and those of README.md."""

import doctest
import pathlib
import unittest

from clearline.checker import at_end, fault, joined_to
from clearline.errors import BadText
from clearline.field import begun_field, hears, passes, settles, shows_of
from clearline.plans import plan_text, read_plan
from clearline.routes import berth_of, do_bar, is_route, lies_of, needs, routes
from clearline.tracks import bare, is_safe, moved, moves, taken

TEXT = 'stretch w plain\nstretch p points\nstretch a plain\nstretch b plain\nstretch q points\nstretch e plain\njoin w 1 p 0\njoin p 1 a 0\njoin p 2 b 0\njoin a 1 q 1\njoin b 1 q 2\njoin q 0 e 0\ngate west w 0\ngate east e 1\nsignal sa a 1\nsignal sb b 0'


class Part1Test(unittest.TestCase):
    def test_reading_and_writing(self):
        LOOP = read_plan(TEXT)
        self.assertEqual(
            [LOOP[0][1], LOOP[1][0], LOOP[2], LOOP[3], plan_text(LOOP) == TEXT, read_plan('')],
            [('p', 'points'), (('w', 1), ('p', 0)), (('west', ('w', 0)), ('east', ('e', 1))), (('sa', ('a', 1), ()), ('sb', ('b', 0), ())), True, ((), (), (), ())],
        )

    def test_a_wrong_line(self):
        with self.assertRaises(BadText) as caught:
            read_plan('stretch a plain\njoin a 1 b 0\nstretch b plain')
        self.assertEqual(caught.exception.line, 3)


class Part2Test(unittest.TestCase):
    def test_the_checker(self):
        LOOP = read_plan(TEXT)
        self.assertEqual(
            [fault(LOOP), joined_to(LOOP, ('p', 2)), joined_to(LOOP, ('w', 0)), at_end(LOOP, ('a', 1)), at_end(LOOP, ('e', 1)), at_end(LOOP, ('q', 0)), fault(read_plan('stretch a plain\nstretch b plain\njoin a 1 b 0\nsignal s a 1 over b 1 0'))],
            [None, ('b', 0), None, ('signal', 'sa'), ('gate', 'east'), None, ('overlap', 's')],
        )


class Part3Test(unittest.TestCase):
    def test_routes(self):
        LOOP = read_plan(TEXT)
        TABLE = routes(LOOP)
        self.assertEqual(
            [[(start, [name for name, one, other in steps], end) for start, steps, end in TABLE], TABLE[4], lies_of(LOOP, TABLE[1]), needs(LOOP, TABLE[0]), do_bar(LOOP, TABLE[0], TABLE[3]), berth_of(LOOP, TABLE[0]), is_route(LOOP, ('sa', (('q', 1, 0),), 'east'))],
            [[('west', ['w', 'p', 'a'], 'sa'), ('west', ['w', 'p', 'b', 'q', 'e'], 'east'), ('east', ['e', 'q', 'a', 'p', 'w'], 'west'), ('east', ['e', 'q', 'b'], 'sb'), ('sa', ['q', 'e'], 'east'), ('sb', ['p', 'w'], 'west')], ('sa', (('q', 1, 0), ('e', 0, 1)), 'east'), (('p', 'right'), ('q', 'right')), ('a', 'p', 'w'), False, 'a', False],
        )


class Part4Test(unittest.TestCase):
    def test_trains_on_the_track(self):
        LOOP = read_plan(TEXT)
        START = bare(LOOP, (('p', 'left'), ('q', 'left')))
        IN = moved(LOOP, (START[0], START[1], ('west',)), ('in', 'one', 'west'))
        ON = moved(LOOP, IN, ('on', 'one'))
        self.assertEqual(
            [IN[0], IN[2], ON[0][0][1], taken(LOOP, ON), moves(LOOP, ON, ('one', 'two')), moved(LOOP, (IN[0], (('p', 'between'), ('q', 'left')), ()), ('on', 'one')), moved(LOOP, (IN[0], START[1], ('west',)), ('in', 'two', 'west'))],
            [(('one', (('w', 0, 1),), False),), (), (('p', 0, 1), ('w', 0, 1)), ('p', 'w'), (('tail', 'one'),), ('derailed', 'p'), ('meet', 'w')],
        )
        self.assertIs(is_safe(LOOP, ON), True)


class Part5Test(unittest.TestCase):
    def test_elements_and_letters(self):
        P = ((('a', 'plain'), ('b', 'plain')), ((('a', 1), ('b', 0)),), (('west', ('a', 0)), ('east', ('b', 1))), (('s', ('a', 1), ()),))
        E = begun_field(P, ())
        ONE = hears(P, E, (), ('open', 's', 3))
        TWO = passes(P, ONE[0], 's')
        self.assertEqual(
            [E, ONE[1], shows_of(P, ONE[0]), TWO[1], hears(P, TWO[0], (), ('open', 's', 3))[1], hears(P, TWO[0], (), ('stop', 's', 4))[1], hears(P, E, ('a',), ('look', 'a', 5))[1]],
            [(((0, 0, False, False), (0, 0, False, False), (0, 0, False, False)), ()), ('signal', 's', 3, 3, False), ('s',), ('signal', 's', 3, 3, True), ('signal', 's', 3, 3, True), ('signal', 's', 4, 3, True), ('seen', 'a', 5, False)],
        )
        self.assertEqual(settles(((("p", "points"),), (), (), ()), ((), ((1, "right", "between"),)), "p"), ((), ((1, "right", "right"),)))


class ReadmeTest(unittest.TestCase):
    def test_the_examples_of_the_readme(self):
        readme = pathlib.Path(__file__).resolve().parent.parent / "README.md"
        failed, tried = doctest.testfile(str(readme), module_relative=False)
        self.assertEqual(failed, 0)
        self.assertGreater(tried, 0)


if __name__ == "__main__":
    unittest.main()
