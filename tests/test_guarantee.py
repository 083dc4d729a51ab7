"""[9.3] The guarantee, in runs of drawn deeds over many plans and journeys."""

import random
import unittest

from clearline.box import room_of
from clearline.calm import calm_run, most_rounds
from clearline.journeys import count_holds, is_homely, judge_count
from clearline.log import come_up, is_log
from clearline.tracks import is_safe
from clearline.worlds import World
from tests.drawn import draw, random_lies
from tests.plays import nothing_done
from tests.trains import SAMPLES, random_samples


class GuaranteeTest(unittest.TestCase):
    def assert_guarantee(self, world):
        self.assertIsNone(world.accident())
        plan, journeys = world.plan, world.journeys
        book = come_up(plan, journeys, world.log())
        # Each train in its room, and the rooms have no common stretch: no two trains on one stretch.
        for name, cover, _ in world.standing()[0]:
            self.assertLessEqual({way[0] for way in cover}, set(room_of(plan, journeys, book, name)))
        self.assertIs(is_safe(plan, world.standing()), True)
        if world.book() is not None:
            self.assertEqual(book, nothing_done(world.book()))
        return book

    def assert_homely(self, world, book):
        plan, journeys = world.plan, world.journeys
        certificate = judge_count(plan, journeys, book[1])
        self.assertEqual(certificate[0], "order")
        self.assertIs(count_holds(plan, journeys, book[1], certificate), True)
        self.assertIs(is_homely(plan, journeys, book[1]), True)
        self.assertIs(is_log(plan, journeys, world.log()), True)

    def test_drawn_deeds(self):
        chance = random.Random(121)
        home, together = 0, 0
        for plan, journeys in [*SAMPLES * 2, *random_samples(40, 122)]:
            world = World(plan, journeys, random_lies(chance, plan))
            for _ in range(120):
                self.assertIsNone(world.do(draw(chance, world.deeds())))
                book = self.assert_guarantee(world)
                together = max(together, len(world.standing()[0]))
            self.assert_homely(world, book)
            home += len(world.home())
        self.assertGreater(home, 20)
        self.assertGreaterEqual(together, 3)

    def test_choices(self):
        # Whichever deeds are chosen, each as likely as any other.
        chance = random.Random(123)
        for plan, journeys in [*SAMPLES, *random_samples(20, 124)]:
            world = World(plan, journeys, random_lies(chance, plan))
            for _ in range(3):
                self.assertEqual(len(world.run(tuple(chance.randrange(10 ** 6) for _ in range(63)))), 63)
                self.assert_homely(world, self.assert_guarantee(world))

    def test_all_come_home_from_every_world(self):
        chance = random.Random(125)
        for plan, journeys in [*SAMPLES, *random_samples(20, 126)]:
            world = World(plan, journeys, random_lies(chance, plan))
            for _ in range(chance.randint(0, 150)):
                world.do(draw(chance, world.deeds()))
            most = most_rounds(world)
            self.assertLessEqual(calm_run(world), most)
            self.assertEqual(world.home(), tuple(name for name, _ in journeys))
            self.assert_homely(world, self.assert_guarantee(world))
            self.assertEqual(world.standing()[0], ())


if __name__ == "__main__":
    unittest.main()
