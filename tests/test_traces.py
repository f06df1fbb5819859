"""mapstack.traces: points [39] and [40]."""

import random
import unittest

from mapstack.breakpoints import Breakpoints
from mapstack.errors import BadMap, BadName, BadNumber, BadPlace
from mapstack.images import Images
from mapstack.maps import ClosedMap, Map
from mapstack.traces import BreakStepper, Stepper, frames_of, trace_text
from tests.mapcases import FAR, many_segments, target_by_words
from tests.support import NO_NAMES, NO_NUMBERS, NO_PLACES, fails

NO_MAPS = (True, False, None, 0, -1, "s", b"", (), ("run", 0, 0, "s", 0, 0), [], {}, {"s": Map()}, object())
WAYS = ("into", "over", "out")
NO_WAYS = NO_NAMES + ("", "Into", "in", "run ", "into\n", ("into",), ["into"], b"into", WAYS, Map())
CASES = many_segments(120, 101, sources="st")


def frames_by_words(segments, trace, keep):
    """The words of [39], in two steps."""
    rows = [(place, target_by_words(segments, *place)) for place in trace]
    rows = [row for row in rows if row[1] or keep]
    frames = []
    for index, (place, target) in enumerate(rows):
        before = rows[index - 1][1] if index else None
        if target is None:
            frames.append(place)
        elif before is None or before[:2] != target[:2]:
            frames.append(target)
    return tuple(frames)


class SlowStepper:
    """The words of [40], from all that was told."""

    def __init__(self, segments, ranges=()):
        self.segments, self.ranges = segments, ranges
        self.way, self.base, self.stops, self.targets = "into", 0, 0, []

    def step(self, place, depth):
        target = target_by_words(self.segments, *place)
        if target is None:
            return None
        is_other = not self.targets or self.targets[-1][:2] != target[:2]
        self.targets.append(target)
        allowed = {"into": is_other, "over": is_other and depth <= self.base, "out": is_other and depth < self.base}
        allowed["run"] = any(
            line == place[0] and first <= place[1] and (after is None or place[1] < after)
            for line, first, after in self.ranges
        )
        if not allowed[self.way]:
            return None
        self.base = depth
        self.stops += 1
        return target


class FramesTest(unittest.TestCase):
    def test_by_the_words(self):
        chance = random.Random(102)
        for segments in CASES:
            own_map = Map(*segments)
            for _ in range(5):
                trace = [(chance.randrange(3), chance.randrange(9)) for _ in range(chance.randrange(12))]
                for keep in (False, True):
                    expected = frames_by_words(segments, trace, keep)
                    for row in (trace, tuple(trace)):
                        self.assertEqual(expected, frames_of(own_map, row, keep=keep))
                self.assertEqual(frames_by_words(segments, trace, False), frames_of(own_map, trace))

    def test_neighbors_of_one_line(self):
        own_map = Map(
            ("run", 0, 0, "a", 3, 0), ("run", 0, 2, "a", 3, 9, "w"), ("gap", 0, 5), ("run", 1, 0, "b", 3, 0),
            ("run", 2, 0, "a", 4, 0),
        )
        one, other, gap = ("a", 3, 0, None), ("a", 3, 9, "w"), (0, 5)
        self.assertEqual((one,), frames_of(own_map, [(0, 0), (0, 2), (0, 1)]))
        self.assertEqual((other,), frames_of(own_map, [(0, 2), (0, 0)]))
        self.assertEqual((one,), frames_of(own_map, [(0, 0), (0, 5), (0, 2)]))
        self.assertEqual((one, gap, other), frames_of(own_map, [(0, 0), (0, 5), (0, 2)], keep=True))
        self.assertEqual((gap, gap, one, gap), frames_of(own_map, [gap, gap, (0, 0), gap], keep=True))
        self.assertEqual((one, ("b", 3, 0, None), one), frames_of(own_map, [(0, 0), (1, 0), (0, 0)]))
        self.assertEqual((one, ("a", 4, 0, None), other), frames_of(own_map, [(0, 0), (2, 0), (0, 2)]))
        self.assertEqual(((), ()), (frames_of(own_map, []), frames_of(own_map, (), keep=True)))

    def test_closed_map_and_far_positions(self):
        own_map = ClosedMap((2,), (("run", 0, 0, "a", 0, 0), ("run", 1, 0, "a", 1, 0)))
        trace = [(0, 1), (0, 7), (1, 0), (FAR, FAR)]
        self.assertEqual((("a", 0, 1, None),), frames_of(own_map, trace))
        self.assertEqual((("a", 0, 1, None),) + tuple(trace[1:]), frames_of(own_map, trace, keep=True))

    def test_refused(self):
        for value in NO_MAPS:
            fails(self, BadMap, "given", value, frames_of, value, None)
        for value in (True, None, 0, "", "ab", b"", {}, {(0, 0): 1}, object(), Map(), {(0, 0)}):
            fails(self, BadPlace, "given", None, frames_of, Map(), value)
        for value in NO_PLACES + ((FAR + 1, 0), (0, FAR + 1)):
            fails(self, BadPlace, "given", value, frames_of, Map(), [(0, 0), value, None], keep=True)
            fails(self, BadPlace, "given", value, frames_of, Map(), (value, (0, 0)))
        with self.assertRaises(TypeError):
            frames_of(Map(), [], True)

    def test_the_trace_stays(self):
        trace = [(0, 0), (0, 1), (5, 5)]
        frames_of(trace=trace, map_here=Map.onto("a", 1), keep=True)
        self.assertEqual([(0, 0), (0, 1), (5, 5)], trace)


class TraceTextTest(unittest.TestCase):
    def test_lines(self):
        frames = (("a.b/c", 0, 0, None), (0, 0), ("s", 41, 9, "w"), (7, FAR))
        text = "a.b/c:1:1\n?:1:1\ns:42:10 in w\n?:8:1000000001"
        self.assertEqual(text, trace_text(frames))
        self.assertEqual(text, trace_text(frames=list(frames)))
        self.assertEqual(("", "?:1:2"), (trace_text(()), trace_text([(0, 1)])))

    def test_of_frames(self):
        own_map = Map(("point", 0, 0, "a", 2, 3, "old"), ("gap", 0, 4))
        self.assertEqual("a:3:4 in old\n?:1:5", trace_text(frames_of(own_map, [(0, 0), (0, 4)], keep=True)))


class StepperTest(unittest.TestCase):
    def check_steps(self, stepper, slow, chance, ways):
        """Tell both the same positions, and compare all that they tell."""
        depth = 0
        for _ in range(30):
            if not chance.randrange(4):
                slow.way = chance.choice(ways)
                self.assertIsNone(stepper.set_way(slow.way))
            depth = max(0, depth + chance.choice((-1, 0, 0, 1)))
            place = (chance.randrange(3), chance.randrange(9))
            self.assertEqual(slow.step(place, depth), stepper.step(*place, depth))
            self.assertEqual((slow.way, slow.base, slow.stops), (stepper.way, stepper.base, stepper.stops))

    def test_by_the_words(self):
        chance = random.Random(103)
        for segments in CASES:
            own_map = Map(*segments)
            self.check_steps(Stepper(own_map), SlowStepper(segments), chance, WAYS)
            self.check_steps(BreakStepper(own_map, Breakpoints(own_map)), SlowStepper(segments), chance, WAYS)

    def test_one_way_only(self):
        chance = random.Random(104)
        for segments in CASES[:40]:
            for way in WAYS:
                stepper, slow = Stepper(Map(*segments)), SlowStepper(segments)
                stepper.step(0, 0, 3), slow.step((0, 0), 3)
                stepper.set_way(way)
                slow.way = way
                self.check_steps(stepper, slow, chance, (way,))

    def test_run_by_the_words(self):
        chance = random.Random(105)
        for segments in CASES:
            own_map = Map(*segments)
            breakpoints = Breakpoints(own_map, reach=1)
            for _ in range(2):
                breakpoints.put(chance.choice("st"), chance.randrange(2), chance.randrange(4))
            ranges = breakpoints.ranges(0) + breakpoints.ranges(1)
            slow = SlowStepper(segments, ranges)
            self.check_steps(BreakStepper(own_map, breakpoints), slow, chance, WAYS + ("run", "run"))

    def test_beginning(self):
        own_map = Map.onto("a", 9)
        stepper = Stepper(own_map)
        self.assertEqual(("into", 0, 0), (stepper.way, stepper.base, stepper.stops))
        self.assertEqual(("a", 0, 4, None), stepper.step(0, 4))
        self.assertIsNone(stepper.step(0, 2))
        for way, depth, stops in (("over", 0, True), ("over", 1, False), ("out", 0, False), ("into", FAR, True)):
            stepper = Stepper(own_map)
            stepper.set_way(way)
            self.assertEqual(("a", 3, 0, None) if stops else None, stepper.step(3, 0, depth))
            self.assertEqual((depth, 1) if stops else (0, 0), (stepper.base, stepper.stops))

    def test_remembers_also_where_it_does_not_stop(self):
        stepper = Stepper(Map(("run", 0, 0, "a", 0, 0), ("run", 1, 0, "a", 1, 0), ("run", 2, 0, "b", 1, 0)))
        stepper.step(0, 0, 1)
        stepper.set_way("over")
        self.assertIsNone(stepper.step(1, 0, 2))
        self.assertIsNone(stepper.step(1, 0, 1))
        self.assertEqual(("a", 0, 0, None), stepper.step(0, 0, 1))
        self.assertIsNone(stepper.step(5, 5, 0))
        self.assertIsNone(stepper.step(0, 3, 1))
        stepper.set_way("out")
        self.assertIsNone(stepper.step(1, 0, 1))
        self.assertEqual(("b", 1, 7, None), stepper.step(2, 7, 0))
        self.assertEqual((0, 3), (stepper.base, stepper.stops))

    def test_run_stops_at_breakpoints_also_on_the_remembered_line(self):
        own_map = Map(("run", 0, 0, "a", 0, 0), ("run", 1, 0, "a", 1, 0))
        breakpoints = Breakpoints(own_map)
        breakpoints.put("a", 0, 3)
        stepper = BreakStepper(own_map, breakpoints)
        stepper.set_way("run")
        found = [stepper.step(0, column, 5) for column in (0, 3, 3, 4)]
        self.assertEqual([None, ("a", 0, 3, None), ("a", 0, 3, None), None], found)
        self.assertEqual(("run", 5, 2), (stepper.way, stepper.base, stepper.stops))
        self.assertIsNone(stepper.step(1, 3, 0))
        stepper.set_way("into")
        self.assertIsNone(stepper.step(1, 0))
        self.assertEqual([("a", 0, 3, None), None], [stepper.step(0, 3), stepper.step(0, 3)])

    def test_breakpoints_of_another_map(self):
        own_map, other = Map(("run", 0, 2, "a", 0, 0)), Map.onto("b", 2)
        breakpoints = Breakpoints(other)
        breakpoints.put("b", 0, 0), breakpoints.put("b", 0, 4)
        stepper = BreakStepper(own_map, breakpoints)
        stepper.set_way("run")
        self.assertEqual([None, None, ("a", 0, 2, None)], [stepper.step(0, column) for column in (0, 3, 4)])
        self.assertEqual(1, stepper.stops)

    def test_breakpoints_are_those_that_were_passed(self):
        own_map = Map.onto("a", 5)
        breakpoints = Breakpoints(own_map)
        breakpoints.put("a", 1)
        stepper = BreakStepper(own_map, breakpoints)
        breakpoints.clear(0), breakpoints.put("a", 2), breakpoints.follow(Map())
        for made in (stepper, stepper.copy()):
            made.set_way("run")
            self.assertEqual([("a", 1, 0, None), None], [made.step(1, 0), made.step(2, 0)])

    def test_copies(self):
        own_map = Map.onto("a", 5)
        breakpoints = Breakpoints(own_map)
        breakpoints.put("a", 4, 1)
        for stepper, kind in ((Stepper(own_map), Stepper), (BreakStepper(own_map, breakpoints), BreakStepper)):
            stepper.step(2, 0, 6)
            stepper.set_way("over")
            other = stepper.copy()
            self.assertIs(kind, other.__class__)
            self.assertEqual(("over", 6, 1), (other.way, other.base, other.stops))
            self.assertIsNone(other.step(2, 9, 6))
            self.assertEqual(("a", 3, 0, None), other.step(3, 0, 5))
            other.set_way("out")
            self.assertEqual(("over", 6, 1), (stepper.way, stepper.base, stepper.stops))
            self.assertEqual(("a", 3, 0, None), stepper.step(3, 0, 6))
            self.assertEqual(("out", 5, 2), (other.way, other.base, other.stops))
        other.set_way("run")
        self.assertEqual([None, ("a", 4, 1, None)], [other.step(4, 0), other.step(4, 1)])

    def test_words_do_not_matter_for_the_line(self):
        stepper = Stepper(Map(("run", 0, 0, "a", 0, 0), ("run", 0, 3, "a", 0, 3, "w")))
        self.assertEqual([("a", 0, 3, "w"), None], [stepper.step(0, 3), stepper.step(0, 0)])

    def test_closed_map(self):
        stepper = Stepper(ClosedMap((2,), (("run", 0, 0, "a", 0, 0),)))
        self.assertEqual([None, None, ("a", 0, 1, None)], [stepper.step(0, 5), stepper.step(9, 0), stepper.step(0, 1)])


class RefusedTest(unittest.TestCase):
    def test_made_of(self):
        for value in NO_MAPS:
            fails(self, BadMap, "given", value, Stepper, value)
            fails(self, BadMap, "given", value, BreakStepper, value, None)
            fails(self, BadPlace, "given", value, BreakStepper, Map(), value)
        fails(self, BadPlace, "given", Images, BreakStepper, Map(), Images)

    def test_numbers_change_nothing(self):
        own_map = Map.onto("a", 3)
        for stepper in (Stepper(own_map), BreakStepper(own_map, Breakpoints(own_map))):
            for value in NO_NUMBERS + (FAR + 1,):
                fails(self, BadNumber, "given", value, stepper.step, value, -1, -1)
                fails(self, BadNumber, "given", value, stepper.step, 0, value, -1)
                fails(self, BadNumber, "given", value, stepper.step, 0, 0, value)
                fails(self, BadNumber, "given", value, stepper.step, 9, 0, value)
            self.assertEqual(("into", 0, 0), (stepper.way, stepper.base, stepper.stops))
            self.assertEqual(("a", 0, 0, None), stepper.step(0, 0, FAR))
            self.assertEqual(FAR, stepper.base)

    def test_ways(self):
        own_map = Map.onto("a", 3)
        for stepper in (Stepper(own_map), BreakStepper(own_map, Breakpoints(own_map))):
            stepper.set_way("out")
            for value in NO_WAYS:
                fails(self, BadName, "given", value, stepper.set_way, value)
            self.assertEqual("out", stepper.way)
        fails(self, BadName, "given", "run", Stepper(own_map).set_way, "run")

    def test_calls_by_name(self):
        stepper = BreakStepper(breakpoints=Breakpoints(Map()), map_here=Map.onto("a", 3))
        stepper.set_way(way="over")
        self.assertIsNone(stepper.step(depth=1, column=0, line=0))
        self.assertEqual(("a", 1, 2, None), stepper.step(column=2, line=1))
        self.assertEqual(0, stepper.base)
        self.assertEqual(("a", 1, 2, None), Stepper(map_here=Map.onto("a", 3)).step(depth=7, column=2, line=1))


if __name__ == "__main__":
    unittest.main()
