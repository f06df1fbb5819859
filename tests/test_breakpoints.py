"""mapstack.breakpoints: points [37] and [38]."""

import random
import unittest

from mapstack.breakpoints import Breakpoints
from mapstack.edits import Edit
from mapstack.errors import BadEdit, BadMap, BadName, BadNumber, NoPlace
from mapstack.images import Images
from mapstack.maps import ClosedMap, Map
from mapstack.patches import Patch
from tests.mapcases import FAR, any_segments
from tests.support import NO_INTEGERS, NO_NAMES, NO_NUMBERS, fails

NO_MAPS = (True, False, None, 0, -1, "s", b"", (), ("run", 0, 0, "s", 0, 0), [], {}, {"s": Map()}, object())
NO_EDITS = (True, False, 0, "", "s", (), ((0, 0), (0, 1), ""), [], {}, Patch(), Map(), object())
IDLE = Edit((0, 0), (0, 0), "")
# In front of this column lies the first covered one of each line, as far as the maps here are drawn.
WIDE = 20


def any_map(chance, lines=2, leads=6):
    """A map to several lines of two sources, often with columns that nothing leads to."""
    segments = []
    for segment in any_segments(chance, lines=lines, columns=9, most=9):
        if segment[0] != "gap":
            segment = segment[:4] + (chance.randrange(leads), chance.choice((0, 0, 3, 6, 9))) + segment[6:]
        segments.append(segment)
    return Map(*segments)


def bound_by_words(own_map, asked, reach):
    """The words of [37], by the images of each position."""
    source, line, column = asked
    images = Images(own_map)
    for by in range(reach + 1):
        for place in range(column if by == 0 else 0, max(WIDE, column + 2)):
            if images.ranges_at(source, line + by, place):
                return source, line + by, place
    return None


class BoundTest(unittest.TestCase):
    def test_by_the_images_of_every_position(self):
        chance = random.Random(91)
        for _ in range(60):
            own_map = any_map(chance)
            for reach in (0, 1, 2, 20):
                made = Breakpoints(own_map, reach=reach)
                for name in "st":
                    for line in range(6):
                        for column in (0, 1, 4, 9, 12):
                            number = made.put(name, line, column)
                            expected = bound_by_words(own_map, (name, line, column), reach)
                            self.assertEqual((name, line, column), made.asked(number))
                            self.assertEqual(expected, made.bound(number))
                            ranges = () if expected is None else Images(own_map)(*expected)
                            self.assertEqual(ranges, made.ranges(number))

    def test_reach(self):
        own_map = Map(("run", 0, 0, "s", 1000, 7), ("gap", 0, 2), ("point", 1, 0, "t", 20, 0))
        for reach, line, expected in (
            (0, 1000, 1000), (0, 999, None), (1, 999, 1000), (1, 998, None), (1000, 0, 1000), (999, 0, None),
            (1000, 1000, 1000), (1000, 1001, None),
        ):
            made = Breakpoints(own_map, reach=reach)
            made.put("s", line)
            self.assertEqual(None if expected is None else ("s", expected, 7), made.bound(0))
        made = Breakpoints(own_map)
        made.put("t", 0), made.put("t", 0, FAR), made.put("s", 979), made.put("s", 980), made.put("u", 1000)
        bound = [made.bound(number) for number in made.numbers()]
        self.assertEqual([("t", 20, 0), ("t", 20, 0), None, ("s", 1000, 7), None], bound)

    def test_column_counts_on_the_asked_line_alone(self):
        own_map = Map(("point", 0, 0, "s", 3, 2), ("point", 1, 0, "s", 4, 0), ("point", 2, 0, "s", 4, 9))
        made = Breakpoints(own_map)
        rows = [(3, 2, (3, 2)), (3, 3, (4, 0)), (4, 0, (4, 0)), (4, 1, (4, 9)), (4, 10, None), (2, 50, (3, 2))]
        for line, column, expected in rows:
            number = made.put("s", line, column)
            self.assertEqual(None if expected is None else ("s",) + expected, made.bound(number))

    def test_far_out(self):
        made = Breakpoints(Map(("run", 0, 0, "s", FAR, FAR), ("point", 1, 0, "s", FAR, 3)), reach=1000)
        made.put("s", FAR, FAR), made.put("s", FAR - 1000, FAR), made.put("s", FAR, 4)
        bound = [made.bound(number) for number in range(3)]
        self.assertEqual([("s", FAR, FAR), ("s", FAR, 3), ("s", FAR, FAR)], bound)
        self.assertEqual((((0, 0, 1),), ((1, 0, None),)), (made.ranges(0), made.ranges(1)))

    def test_unbound(self):
        made = Breakpoints(Map())
        self.assertEqual(0, made.put("s", 0))
        self.assertEqual((None, ()), (made.bound(0), made.ranges(0)))
        self.assertEqual((), made.hits(0, 0))

    def test_closed_map(self):
        made = Breakpoints(ClosedMap((2,), (("run", 0, 0, "s", 0, 0), ("run", 1, 0, "s", 1, 0))))
        made.put("s", 0, 1), made.put("s", 0, 2)
        self.assertEqual([("s", 0, 1), None], [made.bound(0), made.bound(1)])
        self.assertEqual(((0,), (), ()), (made.hits(0, 1), made.hits(0, 2), made.hits(7, 7)))


class NumbersTest(unittest.TestCase):
    def test_counted_from_0_and_never_used_again(self):
        made = Breakpoints(Map.onto("s", 1))
        self.assertEqual([0, 1, 2], [made.put("s", 0, column) for column in range(3)])
        self.assertIsNone(made.clear(2))
        self.assertIsNone(made.clear(0))
        self.assertEqual((1,), made.numbers())
        self.assertEqual([3, 4], [made.put("s", 0), made.put("s", 0)])
        self.assertEqual((1, 3, 4), made.numbers())
        for number in made.numbers():
            made.clear(number)
        self.assertEqual((), made.numbers())
        self.assertEqual(5, made.put("s", 0))

    def test_refused_puts_use_no_number(self):
        made = Breakpoints(Map.onto("s", 1))
        fails(self, BadName, "given", "", made.put, "", 0)
        fails(self, BadNumber, "given", -1, made.put, "s", 0, -1)
        self.assertEqual((0, (0,)), (made.put("s", 0), made.numbers()))

    def test_no_place(self):
        made = Breakpoints(Map.onto("s", 1))
        for _ in range(3):
            made.put("s", 0)
        made.clear(1)
        for value in NO_INTEGERS + (-1, 1, 3, 10 ** 99):
            for call in (made.clear, made.asked, made.bound, made.ranges):
                fails(self, NoPlace, "given", value, call, value)
        self.assertEqual((0, 2), made.numbers())

    def test_default_column(self):
        made = Breakpoints(Map.onto("s", 9))
        self.assertEqual(("s", 4, 0), made.asked(made.put("s", 4)))


class HitsTest(unittest.TestCase):
    def test_against_the_ranges(self):
        chance = random.Random(92)
        for _ in range(40):
            own_map = any_map(chance)
            made = Breakpoints(own_map, reach=chance.randrange(4))
            for _ in range(chance.randrange(8)):
                made.put(chance.choice("st"), chance.randrange(6), chance.randrange(11))
            for number in made.numbers()[::3]:
                made.clear(number)
            for line in range(3):
                for column in list(range(14)) + [FAR]:
                    expected = tuple(number for number in made.numbers() if any(
                        at == line and first <= column and (after is None or column < after)
                        for at, first, after in made.ranges(number)
                    ))
                    self.assertEqual(expected, made.hits(line, column))

    def test_several_at_one_position(self):
        made = Breakpoints(Map(("point", 0, 1, "s", 2, 0, "w"), ("run", 1, 0, "s", 2, 0)))
        made.put("s", 2), made.put("s", 0), made.put("s", 2, 1), made.put("s", 1, 5)
        self.assertEqual((0, 1, 3), made.hits(0, 7))
        self.assertEqual(((0, 1, 3), (2,)), (made.hits(1, 0), made.hits(1, 1)))
        self.assertEqual((), made.hits(0, 0))


class FollowTest(unittest.TestCase):
    def test_against_binding_anew(self):
        chance = random.Random(93)
        for _ in range(120):
            reach = chance.randrange(4)
            made = Breakpoints(any_map(chance), reach=reach)
            for _ in range(6):
                made.put(chance.choice("st"), chance.randrange(6), chance.randrange(11))
            made.clear(chance.randrange(6))
            for _ in range(3):
                own_map, named = any_map(chance), {}
                if chance.randrange(3):
                    low, high = sorted((chance.randrange(5), chance.randrange(11)) for _ in range(2))
                    edit = Edit(low, high, chance.choice(("", "x", "xyz", "x\n", "\n\nab")))
                    named = {"source": chance.choice("st"), "edit": edit}
                self.check_follow(made, own_map, reach, named)

    def check_follow(self, made, own_map, reach, named):
        asked = {number: made.asked(number) for number in made.numbers()}
        bound = {number: made.bound(number) for number in made.numbers()}
        changes = made.follow(own_map, **named)
        expected = []
        for number, (source, line, column) in asked.items():
            if named and source == named["source"]:
                line, column = named["edit"].forward(line, column) or named["edit"].new_high
            self.assertEqual((source, line, column), made.asked(number))
            self.assertEqual(bound_by_words(own_map, (source, line, column), reach), made.bound(number))
            if made.bound(number) != bound[number]:
                expected.append((number, bound[number], made.bound(number)))
        self.assertEqual(tuple(asked), made.numbers())
        self.assertEqual(tuple(expected), changes)

    def test_edit_in_front_around_and_behind(self):
        own_map = Map.onto("s", 9)
        rows = [
            (Edit((0, 0), (0, 0), "a\nb"), (3, 4)), (Edit((2, 1), (2, 2), ""), (2, 3)), (Edit((2, 4), (2, 4), "xy"), (2, 6)),
            (Edit((2, 3), (2, 4), "xyz"), (2, 6)), (Edit((2, 4), (2, 5), "xyz"), (2, 7)),
            (Edit((1, 0), (3, 0), "a\nbc"), (2, 2)), (Edit((2, 2), (2, 9), ""), (2, 2)), (Edit((2, 5), (3, 0), "q"), (2, 4)),
        ]
        for edit, expected in rows:
            made = Breakpoints(own_map)
            made.put("s", 2, 4), made.put("t", 2, 4)
            old = made.bound(0)
            changes = made.follow(own_map, source="s", edit=edit)
            self.assertEqual([("s",) + expected, ("t", 2, 4)], [made.asked(0), made.asked(1)])
            self.assertEqual(("s",) + expected, made.bound(0))
            self.assertEqual(() if expected == (2, 4) else ((0, old, ("s",) + expected),), changes)

    def test_bound_anew_from_the_asked_position(self):
        made = Breakpoints(Map(("point", 0, 0, "s", 5, 5)))
        made.put("s", 4, 1)
        near, lost = Map(("point", 0, 0, "s", 4, 3), ("point", 1, 0, "s", 5, 5)), Map()
        self.assertEqual(((0, ("s", 5, 5), ("s", 4, 3)),), made.follow(near))
        self.assertEqual((), made.follow(near))
        self.assertEqual(((0, ("s", 4, 3), None),), made.follow(lost))
        self.assertEqual((("s", 4, 1), None), (made.asked(0), made.bound(0)))
        self.assertEqual(((0, None, ("s", 4, 3)),), made.follow(map_here=near))
        self.assertEqual(((0,), ()), (made.hits(0, 9), made.hits(1, 0)))

    def test_asked_positions_beyond_the_numbers_that_can_be_passed(self):
        made = Breakpoints(Map())
        made.put("s", FAR, FAR)
        far = Map.unbounded((("run", 0, 0, "s", FAR + 1, FAR),))
        changes = made.follow(far, source="s", edit=Edit((0, 0), (0, 0), "\n"))
        self.assertEqual(((0, None, ("s", FAR + 1, FAR)),), changes)
        self.assertEqual((0,), made.hits(0, 0))

    def test_refused(self):
        made = Breakpoints(Map.onto("s", 3))
        made.put("s", 1)
        for value in NO_MAPS:
            fails(self, BadMap, "given", value, made.follow, value, source="", edit=0)
        for value in NO_NAMES:
            if value is not None:
                fails(self, BadName, "given", value, made.follow, Map(), source=value, edit=IDLE)
                fails(self, BadName, "given", value, made.follow, Map(), source=value)
        for value in NO_EDITS:
            fails(self, BadEdit, "index", None, made.follow, Map(), source="s", edit=value)
            fails(self, BadEdit, "index", None, made.follow, Map(), edit=value)
        fails(self, BadEdit, "index", None, made.follow, Map(), source="s")
        fails(self, BadEdit, "index", None, made.follow, Map(), edit=IDLE)
        self.assertEqual((("s", 1, 0), (0,)), (made.bound(0), made.hits(1, 0)))
        with self.assertRaises(TypeError):
            made.follow(Map(), "s", IDLE)


class CopyTest(unittest.TestCase):
    def test_independent_with_the_same_numbers_to_come(self):
        made = Breakpoints(Map.onto("s", 3), reach=0)
        made.put("s", 1), made.put("s", 2), made.put("s", 7)
        made.clear(1)
        other = made.copy()
        self.assertEqual((0, 2), other.numbers())
        self.assertEqual([made.asked(0), made.bound(0), made.bound(2)], [other.asked(0), other.bound(0), other.bound(2)])
        self.assertEqual((3, 3), (made.put("s", 0), other.put("s", 2, 5)))
        other.follow(Map(), source="s", edit=Edit((0, 0), (0, 0), "\n"))
        other.clear(0)
        self.assertEqual(((0, 2, 3), (2, 3)), (made.numbers(), other.numbers()))
        self.assertEqual((("s", 1, 0), ("s", 1, 0)), (made.asked(0), made.bound(0)))
        self.assertEqual((("s", 0, 0), ("s", 3, 5)), (made.asked(3), other.asked(3)))
        self.assertEqual(((0,), ()), (made.hits(1, 0), other.hits(1, 0)))
        # The reach is the same, too.
        self.assertIsNone(other.bound(other.put("s", 0)))


class RefusedTest(unittest.TestCase):
    def test_maps_and_reach(self):
        for value in NO_MAPS:
            fails(self, BadMap, "given", value, Breakpoints, value, reach=-1)
        for value in NO_NUMBERS + (1001, 10 ** 99):
            fails(self, BadNumber, "given", value, Breakpoints, Map(), reach=value)
        with self.assertRaises(TypeError):
            Breakpoints(Map(), 5)

    def test_positions(self):
        made = Breakpoints(map_here=Map())
        for value in NO_NAMES:
            fails(self, BadName, "given", value, made.put, value, -1, -1)
        for value in NO_NUMBERS + (FAR + 1,):
            fails(self, BadNumber, "given", value, made.put, "s", value, -1)
            fails(self, BadNumber, "given", value, made.put, "s", 0, value)
            fails(self, BadNumber, "given", value, made.hits, value, -1)
            fails(self, BadNumber, "given", value, made.hits, 0, value)

    def test_calls_by_name(self):
        made = Breakpoints(map_here=Map.onto("s", 2), reach=1)
        self.assertEqual(0, made.put(column=3, line=1, source="s"))
        self.assertEqual((("s", 1, 3), ("s", 1, 3)), (made.asked(number=0), made.bound(number=0)))
        self.assertEqual((((1, 3, 4),), (0,)), (made.ranges(number=0), made.hits(column=3, line=1)))
        made.clear(0)
        self.assertEqual((), made.numbers())


if __name__ == "__main__":
    unittest.main()
