"""The examples of the document, as they stand there, and those of README.md."""

import doctest
import pathlib
import unittest

from clearline.box import begun_book, ordered, reason_holds, room_of, ticked, told
from clearline.calm import calm_run, most_rounds, report
from clearline.checker import at_end, fault, joined_to
from clearline.clashes import clash, is_clash
from clearline.days import can_be_gone, days_hold, judge_days, least_price, price
from clearline.errors import BadDeed, BadText
from clearline.field import begun_field, hears, passes, settles, shows_of
from clearline.journeys import going_trains, held, is_homely, judge_count, judge_going, wanted
from clearline.log import come_up, is_log, letters_of, rows_of
from clearline.plans import plan_text, read_plan
from clearline.routes import berth_of, do_bar, is_route, lies_of, needs, routes
from clearline.tracks import bare, is_safe, moved, moves, taken
from clearline.worlds import World, judge_run

TEXT = 'stretch w plain\nstretch p points\nstretch a plain\nstretch b plain\nstretch q points\nstretch e plain\njoin w 1 p 0\njoin p 1 a 0\njoin p 2 b 0\njoin a 1 q 1\njoin b 1 q 2\njoin q 0 e 0\ngate west w 0\ngate east e 1\nsignal sa a 1\nsignal sb b 0'


class Part1Test(unittest.TestCase):
    def test_reading_and_writing(self):
        LOOP = read_plan(TEXT)
        self.assertEqual(
            [LOOP[0][1], LOOP[1][0], LOOP[2], LOOP[3], plan_text(LOOP) == TEXT, read_plan('')],
            [('p', 'points'), (('w', 1), ('p', 0)), (('west', ('w', 0)), ('east', ('e', 1))), (('sa', ('a', 1), ()), ('sb', ('b', 0), ())), True, ((), (), (), ())],
        )

    def test_a_wrong_line(self):
        with self.assertRaises(BadText) as caught:
            read_plan('stretch a plain\njoin a 1 b 0\nstretch b plain')
        self.assertEqual(caught.exception.line, 3)


class Part2Test(unittest.TestCase):
    def test_the_checker(self):
        LOOP = read_plan(TEXT)
        self.assertEqual(
            [fault(LOOP), joined_to(LOOP, ('p', 2)), joined_to(LOOP, ('w', 0)), at_end(LOOP, ('a', 1)), at_end(LOOP, ('e', 1)), at_end(LOOP, ('q', 0)), fault(read_plan('stretch a plain\nstretch b plain\njoin a 1 b 0\nsignal s a 1 over b 1 0'))],
            [None, ('b', 0), None, ('signal', 'sa'), ('gate', 'east'), None, ('overlap', 's')],
        )


class Part3Test(unittest.TestCase):
    def test_routes(self):
        LOOP = read_plan(TEXT)
        TABLE = routes(LOOP)
        self.assertEqual(
            [[(start, [name for name, one, other in steps], end) for start, steps, end in TABLE], TABLE[4], lies_of(LOOP, TABLE[1]), needs(LOOP, TABLE[0]), do_bar(LOOP, TABLE[0], TABLE[3]), berth_of(LOOP, TABLE[0]), is_route(LOOP, ('sa', (('q', 1, 0),), 'east'))],
            [[('west', ['w', 'p', 'a'], 'sa'), ('west', ['w', 'p', 'b', 'q', 'e'], 'east'), ('east', ['e', 'q', 'a', 'p', 'w'], 'west'), ('east', ['e', 'q', 'b'], 'sb'), ('sa', ['q', 'e'], 'east'), ('sb', ['p', 'w'], 'west')], ('sa', (('q', 1, 0), ('e', 0, 1)), 'east'), (('p', 'right'), ('q', 'right')), ('a', 'p', 'w'), False, 'a', False],
        )


class Part4Test(unittest.TestCase):
    def test_trains_on_the_track(self):
        LOOP = read_plan(TEXT)
        START = bare(LOOP, (('p', 'left'), ('q', 'left')))
        IN = moved(LOOP, (START[0], START[1], ('west',)), ('in', 'one', 'west'))
        ON = moved(LOOP, IN, ('on', 'one'))
        self.assertEqual(
            [IN[0], IN[2], ON[0][0][1], taken(LOOP, ON), moves(LOOP, ON, ('one', 'two')), moved(LOOP, (IN[0], (('p', 'between'), ('q', 'left')), ()), ('on', 'one')), moved(LOOP, (IN[0], START[1], ('west',)), ('in', 'two', 'west'))],
            [(('one', (('w', 0, 1),), False),), (), (('p', 0, 1), ('w', 0, 1)), ('p', 'w'), (('tail', 'one'),), ('derailed', 'p'), ('meet', 'w')],
        )
        self.assertIs(is_safe(LOOP, ON), True)


class Part5Test(unittest.TestCase):
    def test_elements_and_letters(self):
        P = ((('a', 'plain'), ('b', 'plain')), ((('a', 1), ('b', 0)),), (('west', ('a', 0)), ('east', ('b', 1))), (('s', ('a', 1), ()),))
        E = begun_field(P, ())
        ONE = hears(P, E, (), ('open', 's', 3))
        TWO = passes(P, ONE[0], 's')
        self.assertEqual(
            [E, ONE[1], shows_of(P, ONE[0]), TWO[1], hears(P, TWO[0], (), ('open', 's', 3))[1], hears(P, TWO[0], (), ('stop', 's', 4))[1], hears(P, E, ('a',), ('look', 'a', 5))[1]],
            [(((0, 0, False, False), (0, 0, False, False), (0, 0, False, False)), ()), ('signal', 's', 3, 3, False), ('s',), ('signal', 's', 3, 3, True), ('signal', 's', 3, 3, True), ('signal', 's', 4, 3, True), ('seen', 'a', 5, False)],
        )
        self.assertEqual(settles(((("p", "points"),), (), (), ()), ((), ((1, "right", "between"),)), "p"), ((), ((1, "right", "right"),)))


class Part6Test(unittest.TestCase):
    def test_a_route_and_the_next_one(self):
        P = ((('a', 'plain'), ('b', 'plain')), ((('a', 1), ('b', 0)),), (('west', ('a', 0)), ('east', ('b', 1))), (('s', ('a', 1), ()),))
        J = (('t', (('west', (('a', 0, 1),), 's'), ('s', (('b', 0, 1),), 'east'))),)
        ONE = ordered(P, J, begun_book(P, J), ('go', 't'))
        TWO = told(P, J, ONE[0], ('signal', 'west', 1, 1, True))
        THREE = ordered(P, J, TWO[0], ('go', 't'))
        self.assertEqual(
            [ONE, TWO, THREE[0], room_of(P, J, THREE[0], 't')],
            [((1, (1,), (1, 0), (('open', 1),)), (('row', ('go', 't')), ('row', ('open', 't')), ('send', ('open', 'west', 1)))), ((1, (1,), (1, 0), ((),)), (('row', ('sweep', 't')),)), (2, (2,), (1, 1), (('open', 2),)), ('a', 'b')],
        )

    def test_sweeping(self):
        P = ((('a', 'plain'), ('b', 'plain')), ((('a', 1), ('b', 0)),), (('west', ('a', 0)), ('east', ('b', 1))), (('s', ('a', 1), ()),))
        J = (('t', (('west', (('a', 0, 1),), 's'), ('s', (('b', 0, 1),), 'east'))),)
        BOOK = (2, (2,), (1, 1), (('open', 2),))
        FOUR = told(P, J, BOOK, ('signal', 's', 2, 2, True))
        FIVE = told(P, J, FOUR[0], ('seen', 'a', 3, True))
        self.assertEqual(
            [FOUR, ticked(P, J, FOUR[0])[1], FIVE, told(P, J, FIVE[0], ('seen', 'b', 4, True))[0], ordered(P, J, FIVE[0], ('go', 't'))[1], reason_holds(P, J, FIVE[0], ('undo', 't'), ('gone', 't'))],
            [((3, (2,), (1, 1), (('sweep', 0, 3),)), (('row', ('sweep', 't')), ('send', ('look', 'a', 3)))), (('send', ('look', 'a', 3)),), ((4, (2,), (0, 1), (('sweep', 1, 4),)), (('row', ('free', 't')), ('send', ('look', 'b', 4)))), (4, (2,), (0, 0), ((),)), (('refused', ('home',)),), True],
        )


class Part7Test(unittest.TestCase):
    def test_the_log(self):
        P = ((('a', 'plain'), ('b', 'plain')), ((('a', 1), ('b', 0)),), (('west', ('a', 0)), ('east', ('b', 1))), (('s', ('a', 1), ()),))
        J = (('t', (('west', (('a', 0, 1),), 's'), ('s', (('b', 0, 1),), 'east'))),)
        LOG = (('go', 't'), ('open', 't'), ('sweep', 't'), ('go', 't'))
        self.assertEqual(
            [come_up(P, J, LOG), is_log(P, J, LOG), is_log(P, J, (('open', 't'),)), rows_of((('row', ('go', 't')), ('send', ('look', 'a', 1)))), letters_of((('row', ('go', 't')), ('send', ('look', 'a', 1))))],
            [(1, (2,), (1, 1), (('points', (), ()),)), True, False, (('go', 't'),), (('look', 'a', 1),)],
        )


class Part8Test(unittest.TestCase):
    def test_journeys(self):
        LOOP = read_plan(TEXT)
        TABLE = routes(LOOP)
        BOTH = (('one', (TABLE[0], TABLE[4])), ('two', (TABLE[3], TABLE[5])))
        LEFT = (('one', (TABLE[0], TABLE[4])), ('two', (TABLE[2],)))
        self.assertEqual(
            [held(LOOP, BOTH, (1, 1)), wanted(LOOP, BOTH, (1, 1)), is_homely(LOOP, BOTH, (1, 1)), going_trains(LOOP, BOTH, (0, 0)), judge_going(LOOP, LEFT, (1, 0), 'two'), judge_going(LOOP, LEFT, (2, 0), 'one'), judge_count(LOOP, LEFT, (1, 0))],
            [(('a',), ('b',)), (('e', 'q'), ('p', 'w')), True, ('one', 'two'), ('held', 'a', 'one'), ('home',), ('order', ('one', 'two'))],
        )


class Part9Test(unittest.TestCase):
    def test_orders_letters_and_a_fall(self):
        P = ((('a', 'plain'), ('b', 'plain')), ((('a', 1), ('b', 0)),), (('west', ('a', 0)), ('east', ('b', 1))), (('s', ('a', 1), ()),))
        J = (('t', (('west', (('a', 0, 1),), 's'), ('s', (('b', 0, 1),), 'east'))),)
        W = World(P, J, ())
        self.assertEqual(
            [W.do(('order', ('go', 't'))), W.net(), W.do(('bring', 0)), W.net(), W.do(('in', 't', 'west')), W.net()[1:], W.standing(), W.do(('fall',)), W.book(), W.log(), W.do(('up',)), W.book()],
            [None, (('open', 'west', 1),), None, (('signal', 'west', 1, 1, False),), None, (('signal', 'west', 1, 1, True),), ((('t', (('a', 0, 1),), False),), (), ()), None, None, (('go', 't'), ('open', 't')), None, (1, (1,), (1, 0), (('open', 1),))],
        )

    def test_a_run(self):
        P = ((('a', 'plain'), ('b', 'plain')), ((('a', 1), ('b', 0)),), (('west', ('a', 0)), ('east', ('b', 1))), (('s', ('a', 1), ()),))
        J = (('t', (('west', (('a', 0, 1),), 's'), ('s', (('b', 0, 1),), 'east'))),)
        W = World(P, J, ())
        DONE = W.run((0, 17, 5, 1000003, 12, 7, 30))
        self.assertEqual([len(DONE), W.accident(), judge_run(P, J, (), DONE) == ('safe', W.standing())], [7, None, True])

    def test_points(self):
        Q = ((('w', 'plain'), ('p', 'points'), ('a', 'plain'), ('b', 'plain')), ((('w', 1), ('p', 0)), (('p', 1), ('a', 0)), (('p', 2), ('b', 0))), (('west', ('w', 0)), ('east', ('a', 1)), ('south', ('b', 1))), ())
        J = (('t', (('west', (('w', 0, 1), ('p', 0, 2), ('b', 0, 1)), 'south'),)),)
        W = World(Q, J, (('p', 'left'),))
        self.assertEqual(
            [W.do(('order', ('go', 't'))), W.net(), W.do(('bring', 0)), W.net(), W.do(('settle', 'p')), W.standing()[1], W.do(('tick',)), W.net()[1:], W.do(('bring', 1)), W.net()[1:], W.do(('bring', 1)), W.net()[1:], W.book()],
            [None, (('throw', 'p', 1, 'right'),), None, (('points', 'p', 1, 'between'),), None, (('p', 'right'),), None, (('throw', 'p', 1, 'right'),), None, (('points', 'p', 1, 'right'),), None, (('open', 'west', 2),), (2, (1,), (1, 1, 0, 1), (('open', 2),))],
        )

    def test_a_slip(self):
        R = ((('a', 'plain'), ('o', 'plain')), ((('a', 1), ('o', 0)),), (('west', ('a', 0)), ('east', ('o', 1))), (('s', ('a', 1), (('o', 0, 1),)),))
        J = (('t', (('west', (('a', 0, 1),), 's'), ('s', (('o', 0, 1),), 'east'))),)
        W = World(R, J, ())
        self.assertEqual(
            [W.do(('order', ('go', 't'))), W.do(('bring', 0)), W.do(('in', 't', 'west')), W.book()[2], W.do(('slip', 't')), W.standing()[0], W.do(('back', 't')), W.standing()[0]],
            [None, None, None, (1, 1), None, (('t', (('o', 0, 1), ('a', 0, 1)), True),), None, (('t', (('a', 0, 1),), False),)],
        )

    def test_a_bad_deed(self):
        P = ((('a', 'plain'), ('b', 'plain')), ((('a', 1), ('b', 0)),), (('west', ('a', 0)), ('east', ('b', 1))), (('s', ('a', 1), ()),))
        J = (('t', (('west', (('a', 0, 1),), 's'), ('s', (('b', 0, 1),), 'east'))),)
        W = World(P, J, ())
        with self.assertRaises(BadDeed) as caught:
            W.do(('bring', False))
        self.assertEqual(repr(caught.exception.thing), repr(('bring', False)))


class Part10Test(unittest.TestCase):
    def test_a_calm_run(self):
        P = ((('a', 'plain'), ('b', 'plain')), ((('a', 1), ('b', 0)),), (('west', ('a', 0)), ('east', ('b', 1))), (('s', ('a', 1), ()),))
        J = (('t', (('west', (('a', 0, 1),), 's'), ('s', (('b', 0, 1),), 'east'))),)
        W = World(P, J, ())
        self.assertEqual(
            [most_rounds(W), report(W), calm_run(W), report(W), W.home()],
            [3, (('t', 'outside', 'west'),), 2, (('t', 'home', 'east'),), ('t',)],
        )


class Part11Test(unittest.TestCase):
    def test_days(self):
        LOOP = read_plan(TEXT)
        TABLE = routes(LOOP)
        BOTH = (('one', (TABLE[0], TABLE[4])), ('two', (TABLE[3], TABLE[5])))
        WISH, AGAINST = ('two', 1, 'one', 1), ('one', 1, 'two', 1)
        self.assertEqual(
            [can_be_gone(LOOP, BOTH, ('one', 'one', 'two', 'two')), can_be_gone(LOOP, BOTH, ('one', 'two')), price(LOOP, BOTH, (WISH,), ('one', 'one', 'two', 'two')), least_price(LOOP, BOTH, (WISH,)), least_price(LOOP, BOTH, (WISH, AGAINST)), days_hold(LOOP, BOTH, (WISH,), judge_days(LOOP, BOTH, (WISH,)))],
            [True, False, 1, 0, 1, True],
        )


class Part12Test(unittest.TestCase):
    def test_clashes(self):
        LOOP = read_plan(TEXT)
        TABLE = routes(LOOP)
        self.assertEqual(
            [len(clash(LOOP, TABLE[0], TABLE[2])), clash(LOOP, TABLE[0], TABLE[3]), is_clash(LOOP, TABLE[0], TABLE[2], ())],
            [8, None, False],
        )


class ReadmeTest(unittest.TestCase):
    def test_the_examples_of_the_readme(self):
        readme = pathlib.Path(__file__).resolve().parent.parent / "README.md"
        failed, tried = doctest.testfile(str(readme), module_relative=False)
        self.assertEqual(failed, 0)
        self.assertGreater(tried, 0)


if __name__ == "__main__":
    unittest.main()
