"""[2.1] The faults of plans, and [2.2] the ways of overlaps."""

import copy
import unittest

from clearline.checker import fault, is_checked
from clearline.errors import BadPlan
from clearline.plans import read_plan
from clearline.ways import wanted_side, ways_of
from tests.samples import ANY_VALUES, EMPTY, FULL, LOOP, WORDS, spoiled

WAYS = {
    "plain": ((0, 1), (1, 0)),
    "points": ((0, 1), (1, 0), (0, 2), (2, 0)),
    "crossing": ((0, 1), (1, 0), (2, 3), (3, 2)),
}
BASE = "stretch a plain\nstretch b plain\nstretch p points\nstretch x crossing\n"


class FaultTest(unittest.TestCase):
    def assert_fault(self, plan, expected):
        plan = read_plan(plan) if isinstance(plan, str) else plan
        with self.subTest(plan=plan):
            before = copy.deepcopy(plan)
            self.assertEqual(fault(plan), expected)
            self.assertEqual(fault(plan=plan), expected)
            self.assertIs(is_checked(plan), expected is None)
            self.assertIs(is_checked(plan=plan), expected is None)
            self.assertEqual(plan, before)


class FaultsTest(FaultTest):
    def test_plans_without_fault(self):
        for plan in (EMPTY, LOOP, FULL, WORDS):
            self.assert_fault(plan, None)
        self.assert_fault(BASE + "join a 0 b 0\njoin a 1 b 1", None)
        self.assert_fault(BASE + "join p 0 x 3\njoin p 2 a 0\ngate g b 0\ngate h b 1\nsignal s a 0", None)
        self.assert_fault(BASE + "join a 1 b 0\nsignal s a 1 over b 0 1\nsignal u b 0 over a 1 0", None)

    def test_values_that_are_no_plans(self):
        for thing in [*ANY_VALUES, *spoiled(FULL)]:
            for call in (lambda: fault(thing), lambda: is_checked(thing), lambda: fault(plan=thing),
                         lambda: is_checked(plan=thing)):
                with self.subTest(thing=thing):
                    with self.assertRaises(BadPlan) as caught:
                        call()
                    self.assertIs(caught.exception.thing, thing)

    def test_names(self):
        for text, name in (
            ("stretch a plain\nstretch b plain\nstretch a points", "a"),
            ("stretch a plain\nstretch b plain\nstretch b plain\nstretch a plain", "b"),
            ("stretch a plain\nstretch b plain\ngate a b 0", "a"),
            ("stretch a plain\ngate g a 0\ngate g a 1", "g"),
            ("stretch a plain\nstretch b plain\njoin a 1 b 0\nsignal b a 1", "b"),
            ("stretch a plain\nstretch b plain\njoin a 1 b 0\ngate g a 0\nsignal g a 1", "g"),
            ("stretch a plain\nstretch b plain\njoin a 1 b 0\nsignal s a 1\nsignal s b 0", "s"),
            ("stretch a plain\ngate z a 0\ngate a a 1\nsignal z a 0", "a"),
            ("stretch b plain\nstretch a plain\nstretch a plain\ngate b a 0", "a"),
        ):
            self.assert_fault(text, ("name", name))

    def test_ends_of_joints(self):
        for kind, many in (("plain", 2), ("points", 3), ("crossing", 4)):
            for number in range(4):
                first = f"stretch a {kind}\nstretch b crossing\njoin a {number} b 0"
                self.assert_fault(first, None if number < many else ("end", "a"))
                second = f"stretch a {kind}\nstretch b crossing\njoin b 0 a {number}"
                self.assert_fault(second, None if number < many else ("end", "b"))
        self.assert_fault("stretch a plain\njoin a 0 z 0", ("end", "a"))
        self.assert_fault("stretch a plain\njoin z 0 a 0", ("end", "z"))
        self.assert_fault(BASE + "join a 1 b 0\njoin p 0 b 2\njoin x 0 z 0", ("end", "p"))

    def test_a_gate_or_signal_is_no_stretch(self):
        self.assert_fault("stretch a plain\njoin a 0 g 0\ngate g a 1", ("end", "a"))
        self.assert_fault("stretch a plain\nstretch b plain\njoin a 0 b 0\ngate g a 1\ngate h g 0", ("end", "h"))

    def test_ends_of_gates(self):
        for kind, many in (("plain", 2), ("points", 3), ("crossing", 4)):
            for number in range(4):
                word = ("end", "g") if number >= many else None if kind == "plain" else ("gate", "g")
                self.assert_fault(f"stretch a {kind}\ngate g a {number}", word)
        self.assert_fault("stretch a plain\ngate g z 0", ("end", "g"))
        self.assert_fault("stretch a plain\ngate g a 0\ngate h a 2\ngate k z 0", ("end", "h"))

    def test_ends_of_signals(self):
        for kind, many in (("plain", 2), ("points", 3), ("crossing", 4)):
            for number in range(4):
                word = ("end", "s") if number >= many else None if kind == "plain" else ("signal", "s")
                join = f"\njoin a {number} b 0" if number < many else ""
                self.assert_fault(f"stretch a {kind}\nstretch b plain{join}\nsignal s a {number}", word)
        self.assert_fault("stretch a plain\nsignal s z 0", ("end", "s"))
        self.assert_fault("stretch a plain\nstretch b plain\njoin a 1 b 0\nsignal u a 1\nsignal s z 0", ("end", "s"))

    def test_joints(self):
        for joints, name in (
            ("join a 0 a 1", "a"),
            ("join a 0 a 0", "a"),
            ("join x 0 x 2", "x"),
            ("join a 1 b 0\njoin a 1 p 0", "a"),
            ("join a 1 b 0\njoin b 0 p 0", "b"),
            ("join a 1 b 0\njoin p 0 a 1", "p"),
            ("join a 1 b 0\njoin x 1 b 0", "x"),
            ("join a 1 b 0\njoin a 1 b 0", "a"),
            ("join a 1 b 0\njoin b 0 a 1", "b"),
            ("join a 1 b 0\njoin p 0 b 0\njoin x 0 x 1", "p"),
            ("join a 1 b 0\njoin x 0 x 1\njoin p 0 b 0", "x"),
        ):
            self.assert_fault(BASE + joints, ("joint", name))

    def test_gates(self):
        for rest, name in (
            ("join a 1 b 0\ngate g a 1", "g"),
            ("join a 1 b 0\ngate g b 0", "g"),
            ("gate g a 0\ngate h a 0", "h"),
            ("gate g a 0\ngate h b 0\ngate k a 0", "k"),
            ("gate g p 0", "g"),
            ("gate g x 3", "g"),
            ("join a 1 b 0\ngate k a 0\ngate h x 1\ngate g a 1", "h"),
            ("join a 1 b 0\ngate k a 0\ngate g a 1\ngate h x 1", "g"),
        ):
            self.assert_fault(BASE + rest, ("gate", name))

    def test_signals(self):
        for rest, name in (
            ("signal s a 0", "s"),
            ("join a 1 b 0\nsignal s a 0", "s"),
            ("gate g a 0\nsignal s a 0", "s"),
            ("join a 1 b 0\nsignal s a 1\nsignal u a 1", "u"),
            ("join a 1 b 0\nsignal s a 1\nsignal u b 0\nsignal v a 1", "v"),
            ("join a 1 p 0\nsignal s p 0", "s"),
            ("join a 1 x 2\nsignal s x 2", "s"),
            ("join a 1 x 2\nsignal v a 1\nsignal s x 2\nsignal u a 1", "s"),
            ("join a 1 x 2\nsignal v a 1\nsignal u a 1\nsignal s x 2", "u"),
        ):
            self.assert_fault(BASE + rest, ("signal", name))

    def test_two_faults_at_once(self):
        # A line for each fault, in the document's order; all of them stand in one plan.
        lines = {
            "name": "stretch a points",
            "end": "join x 3 z 0",
            "joint": "join x 0 x 1",
            "gate": "gate g p 0",
            "signal": "signal s b 1",
            "overlap": "signal u b 0 over a 0 1",
        }
        names = {"name": "a", "end": "x", "joint": "x", "gate": "g", "signal": "s", "overlap": "u"}
        words = list(lines)
        for mask in range(2 ** len(words)):
            chosen = [word for at, word in enumerate(words) if mask >> at & 1]
            stretches = BASE + (lines["name"] + "\n" if "name" in chosen else "")
            rest = [lines[word] for word in chosen if word != "name"]
            joints = [line for line in rest if line.startswith("join")]
            others = [line for line in rest if not line.startswith("join")]
            text = stretches + "\n".join(["join a 1 b 0"] + joints + others)
            expected = (chosen[0], names[chosen[0]]) if chosen else None
            self.assert_fault(text, expected)

    def test_one_item_with_two_faults(self):
        self.assert_fault(BASE + "join a 2 a 2", ("end", "a"))
        self.assert_fault(BASE + "gate a z 0", ("name", "a"))
        self.assert_fault(BASE + "gate g x 0\nsignal s p 0 over z 0 1", ("gate", "g"))
        self.assert_fault(BASE + "signal s a 0 over b 0 1", ("signal", "s"))
        self.assert_fault(BASE + "signal s p 3 over b 0 1", ("end", "s"))


class WaysTest(FaultTest):
    def test_overlaps_of_each_kind(self):
        for kind, many in (("plain", 2), ("points", 3), ("crossing", 4)):
            for joined in range(many):
                for start in range(4):
                    for goal in range(4):
                        text = (f"stretch a plain\nstretch o {kind}\njoin a 1 o {joined}\n"
                                f"signal s a 1 over o {start} {goal}")
                        is_way = kind != "points" and start == joined and (start, goal) in WAYS[kind]
                        self.assert_fault(text, None if is_way else ("overlap", "s"))

    def test_overlaps_elsewhere(self):
        joints = "join a 1 b 0\njoin b 1 x 0\njoin x 1 p 0\n"
        for signal, expected in (
            ("signal s a 1 over b 0 1", None),
            ("signal s a 1 over b 1 0", ("overlap", "s")),
            ("signal s a 1 over a 1 0", ("overlap", "s")),
            ("signal s a 1 over a 0 1", ("overlap", "s")),
            ("signal s a 1 over x 0 1", ("overlap", "s")),
            ("signal s a 1 over z 0 1", ("overlap", "s")),
            ("signal s a 1 over s 0 1", ("overlap", "s")),
            ("signal s b 1 over x 0 1", None),
            ("signal s b 1 over x 0 2", ("overlap", "s")),
            ("signal s b 1 over x 2 3", ("overlap", "s")),
            ("signal s b 0 over a 1 0", None),
            ("signal s b 0 over a 0 1", ("overlap", "s")),
            ("signal s a 1\nsignal u b 1 over x 1 0", ("overlap", "u")),
            ("signal s a 1 over b 0 1\nsignal u b 1 over x 3 2\nsignal v b 0 over b 0 1", ("overlap", "u")),
        ):
            self.assert_fault(BASE + joints + signal, expected)

    def test_the_later_end_of_a_joint(self):
        self.assert_fault("stretch o plain\nstretch a plain\njoin o 0 a 1\nsignal s a 1 over o 0 1", None)
        self.assert_fault("stretch o plain\nstretch a plain\njoin o 0 a 1\nsignal s a 1 over o 1 0", ("overlap", "s"))

    def test_ways_of_stretches(self):
        for kind, numbers in WAYS.items():
            ways = [("abc", start, goal) for start, goal in numbers]
            self.assertEqual(sorted(ways_of(("abc", kind))), sorted(ways))

    def test_wanted_sides(self):
        sides = {(0, 1): "left", (1, 0): "left", (0, 2): "right", (2, 0): "right"}
        for name, start, goal in ways_of(("p", "points")):
            self.assertEqual(wanted_side((name, start, goal)), sides[(start, goal)])


if __name__ == "__main__":
    unittest.main()
