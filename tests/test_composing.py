"""mapstack.composing: points [26] to [31]."""

import random
import unittest

from mapstack.composing import composed, cuts, joined_levels, shaken, through
from mapstack.errors import BadMap, BadName, TooLarge
from mapstack.maps import ClosedMap, Map
from tests.levelcases import WIDE, all_places, any_rows, closed_case, led_places, level_of, pieces_of
from tests.mapcases import FAR, alternating, any_segments, many_segments, pieces_by_words, target_by_words
from tests.support import NO_NAMES, fails

NO_MAPS = (True, False, None, 0, -1, "s", b"", (), ("run", 0, 0, "s", 0, 0), [], [Map()], {}, {"s": Map()}, object())
NO_LEVELS = (True, False, None, 0, -1, "s", b"", (), (("s", Map()),), [], [{}], Map(), object())
PLACES = all_places()
CHANCE = random.Random(41)
# Outer segments with the segments of two levels; often with longer lines, and without words, so that runs and points meet.
CASES = [
    (any_segments(CHANCE, sources="stuw"), any_rows(CHANCE), any_rows(CHANCE)) for _ in range(250)
] + [
    (any_segments(CHANCE, lines=1, most=9, words=(None,)),) + tuple(
        any_rows(CHANCE, sources=("s", "t"), leads="st", words=(None,), most=9) for _ in range(2)
    ) for _ in range(250)
] + [
    (any_segments(CHANCE, words=("w", "v", None)),) + tuple(
        any_rows(CHANCE, words=("v", None), leads="s") for _ in range(2)
    ) for _ in range(100)
]


def told(own_map, places=PLACES):
    return [own_map(*place) for place in places]


class ThroughTest(unittest.TestCase):
    def test_targets_and_pieces_by_the_words(self):
        for segments, one, _ in CASES:
            outer = Map(*segments)
            made = through(outer, level_of(one))
            self.assertIs(Map, made.__class__)
            self.assertEqual(led_places(segments, [one], PLACES), told(made))
            for line in range(3):
                targets = led_places(segments, [one], [(line, column) for column in range(WIDE)])
                self.assertEqual(pieces_by_words(targets, line), made[line])
            self.assertEqual(made, composed(outer, level_of(one)))

    def test_sources_that_the_level_has_not_stay(self):
        outer = Map(("run", 0, 0, "a", 0, 3, "w"), ("point", 0, 5, "b", 1, 1))
        made = through(outer, {"b": Map(("run", 1, 0, "c", 7, 7))})
        self.assertEqual((("run", 0, 0, "a", 0, 3, "w"), ("point", 0, 5, "c", 7, 8)), made[0])
        self.assertEqual(outer, through(outer, {"x": Map()}))
        self.assertEqual(outer, through(outer, {}))
        self.assertEqual(Map(), through(Map(), {"a": Map(("run", 0, 0, "b", 0, 0))}))

    def test_led_once_also_to_a_source_of_the_level(self):
        outer = Map(("run", 0, 0, "a", 0, 0), ("run", 1, 0, "b", 0, 0))
        swap = {"a": Map(("run", 0, 0, "b", 5, 0)), "b": Map(("run", 0, 0, "a", 6, 0))}
        self.assertEqual((("b", 5, 2, None), ("a", 6, 2, None)), (through(outer, swap)(0, 2), through(outer, swap)(1, 2)))
        own = {"a": Map(("run", 0, 0, "a", 0, 1))}
        self.assertEqual(("a", 0, 1, None), through(outer, own)(0, 0))
        self.assertEqual(("a", 0, 3, None), composed(outer, own, own, own)(0, 0))

    def test_words_of_the_outer_and_the_inner_map(self):
        inner = Map(("run", 0, 0, "x", 0, 0), ("run", 0, 5, "x", 0, 5, "in"))
        outer = Map(("run", 0, 0, "a", 0, 0, "out"), ("point", 1, 0, "a", 0, 0, "out"), ("point", 2, 0, "a", 0, 6))
        made = through(outer, {"a": inner})
        self.assertEqual((("run", 0, 0, "x", 0, 0, "out"), ("run", 0, 5, "x", 0, 5, "in")), made[0])
        self.assertEqual((("point", 1, 0, "x", 0, 0, "out"),), made[1])
        self.assertEqual((("point", 2, 0, "x", 0, 6, "in"),), made[2])
        # The word of the led target fills in for the missing one, and so both pieces become one.
        same = through(Map(("run", 0, 0, "a", 0, 0, "in")), {"a": inner})
        self.assertEqual((("run", 0, 0, "x", 0, 0, "in"),), same[0])

    def test_far_out(self):
        outer = Map(("run", 0, FAR, "a", FAR, FAR), ("point", 1, 3, "a", FAR, FAR))
        inner = Map(("run", FAR, 5, "b", 7, FAR), ("point", FAR, FAR, "c", 0, 0, "w"))
        made = through(outer, {"a": inner})
        self.assertEqual([("point", 0, FAR, "c", 0, 0, "w"), ("point", 1, 3, "c", 0, 0, "w")], list(made.pieces()))
        made = through(Map(("run", 0, 0, "a", FAR, FAR - 9)), {"a": inner})
        self.assertEqual((("run", 0, 0, "b", 7, 2 * FAR - 14), ("point", 0, 9, "c", 0, 0, "w")), made[0])
        made = through(Map(("run", 0, 0, "b", 0, FAR)), {"b": Map(("run", 0, FAR, "c", 0, FAR))})
        again = through(made, {"c": Map.unbounded((("run", 0, 2 * FAR, "d", 0, 0),))})
        self.assertEqual((("run", 0, FAR, "d", 0, 0),), again[0])
        self.assertEqual(("d", 0, 0, None), again(0, FAR))

    def test_level_after_level(self):
        for segments, one, two in CASES:
            outer, levels = Map(*segments), (level_of(one), level_of(two))
            made = composed(outer, *levels)
            self.assertEqual(led_places(segments, [one, two], PLACES), told(made))
            self.assertEqual(through(through(outer, levels[0]), levels[1]), made)
            self.assertEqual(through(outer, joined_levels(*levels)), made)

    def test_without_levels(self):
        chance = random.Random(3)
        for segments in many_segments(20, 5):
            made = composed(Map(*segments))
            self.assertEqual(Map(*segments), made)
        for _ in range(20):
            closed, plain = closed_case(chance)
            for made in (composed(closed), through(closed, {}), composed(closed, {}, {"x": closed})):
                self.assertIs(Map, made.__class__)
                self.assertEqual(plain, made)
                self.assertIsNone(made(FAR, FAR))

    def test_closed_maps_are_as_the_maps_that_they_equal(self):
        chance = random.Random(8)
        for _ in range(100):
            closed, plain = closed_case(chance)
            inner, plain_inner = closed_case(chance)
            level, plain_level = {"s": inner}, {"s": plain_inner}
            self.assertEqual(through(plain, plain_level), through(closed, level))
            self.assertEqual(pieces_of(shaken(plain, plain_level)), pieces_of(shaken(closed, level)))
            self.assertEqual(list(cuts(plain, plain_level)), list(cuts(closed, level)))
            made = joined_levels({"t": closed}, level, {"x": inner})
            self.assertEqual(pieces_of(joined_levels({"t": plain}, plain_level, {"x": plain_inner})), pieces_of(made))
            for own_map in list(made.values()) + list(shaken(closed, level).values()):
                self.assertIs(Map, own_map.__class__)


class JoinedTest(unittest.TestCase):
    def test_by_the_words(self):
        for _, one, two in CASES:
            first, second = level_of(one), level_of(two)
            made = joined_levels(first, second)
            self.assertEqual(list(one) + [name for name in two if name not in one], list(made))
            for name, own_map in made.items():
                self.assertEqual(through(first[name], second) if name in one else second[name], own_map)
                if name not in one:
                    self.assertIs(second[name], own_map)

    def test_none_and_one(self):
        self.assertEqual({}, joined_levels())
        self.assertEqual({}, joined_levels({}, {}, {}))
        for _, one, _ in CASES[:50]:
            level = level_of(one)
            made = joined_levels(level)
            self.assertEqual(pieces_of(level), pieces_of(made))
            self.assertEqual(pieces_of(level), pieces_of(joined_levels({}, level)))
            self.assertIsNot(level, made)

    def test_associative_and_from_the_left(self):
        for (_, one, two), (_, three, four) in zip(CASES, CASES[1:]):
            levels = [level_of(rows) for rows in (one, two, three, four)]
            made = joined_levels(*levels)
            pair = joined_levels(joined_levels(*levels[:2]), joined_levels(*levels[2:]))
            self.assertEqual(pieces_of(made), pieces_of(pair))
            self.assertEqual(pieces_of(made), pieces_of(joined_levels(levels[0], joined_levels(*levels[1:]))))
            outer = Map(*CASES[3][0])
            self.assertEqual(composed(outer, *levels), through(outer, made))

    def test_new_dicts(self):
        level, other = {"a": Map.onto("b", 2)}, {"b": Map.onto("c", 2)}
        for made in (joined_levels(level), joined_levels(level, other), shaken(Map.onto("a", 1), level)):
            made["a"] = None
            made["z"] = 1
        self.assertEqual(({"a": Map.onto("b", 2)}, {"b": Map.onto("c", 2)}), (level, other))
        made = joined_levels(level, other)
        level["a"] = other["b"] = Map()
        self.assertEqual({"a": Map.onto("c", 2), "b": Map.onto("c", 2)}, made)


class FactsTest(unittest.TestCase):
    def test_over_in_a_level(self):
        for (segments, one, two) in CASES:
            outer = Map(*segments)
            for name in "st":
                left, right = Map(*one.get(name, [])), Map(*two.get(name, []))
                made = through(outer, {name: left}) | through(outer, {name: right})
                self.assertEqual(made, through(outer, {name: left | right}))

    def test_over_outside_can_have_gaps(self):
        one, other = Map(("run", 0, 0, "a", 0, 0)), Map(("run", 0, 0, "b", 0, 0))
        level = {"a": Map()}
        self.assertIsNone(through(one | other, level)(0, 0))
        self.assertEqual(("b", 0, 0, None), (through(one, level) | through(other, level))(0, 0))
        for (segments, one, _), (others, _, _) in zip(CASES, CASES[1:]):
            level = level_of(one)
            made = through(Map(*segments) | Map(*others), level)
            wide = through(Map(*segments), level) | through(Map(*others), level)
            for place in PLACES:
                self.assertIn(made(*place), (wide(*place), None))

    def test_identity_loses_only_what_is_beyond(self):
        chance = random.Random(12)
        for segments, _, _ in CASES:
            lengths = tuple(chance.randrange(8) for _ in range(chance.randrange(3)))
            made = through(Map(*segments), {"s": Map.identity("s", lengths)})
            for place in PLACES:
                target = target_by_words(segments, *place)
                inside = target and target[1] < len(lengths) and target[2] < lengths[target[1]]
                stays = target is None or target[0] != "s" or inside
                self.assertEqual(target if stays else None, made(*place))

    def test_pieces_begin_at_cuts_or_one_behind(self):
        for segments, one, _ in CASES:
            outer, level = Map(*segments), level_of(one)
            found = list(cuts(outer, level))
            for piece in through(outer, level).pieces():
                self.assertTrue(piece[1:3] in found or (piece[1], piece[2] - 1) in found)


class CutsTest(unittest.TestCase):
    def test_by_the_words(self):
        for segments, one, _ in CASES:
            outer, level = Map(*segments), level_of(one)
            expected = []
            for line in range(3):
                begins = {piece[2]: piece for piece in outer[line]}
                piece = None
                for column in range(WIDE):
                    piece = begins.get(column, piece)
                    is_cut = column in begins
                    if piece and piece[0] == "run" and piece[3] in level:
                        led = piece[5] + column - piece[2]
                        is_cut = is_cut or led in [inner[2] for inner in level[piece[3]][piece[4]]]
                    if is_cut:
                        expected.append((line, column))
            found = list(cuts(outer, level))
            self.assertEqual(expected, found)
            self.assertEqual(sorted(set(found)), found)

    def test_edges(self):
        inner = Map(("run", 0, 2, "b", 0, 0), ("gap", 0, 4), ("point", 0, FAR, "b", 0, 0))
        outer = Map(("run", 0, 1, "a", 0, 1), ("gap", 0, 4), ("point", 3, 0, "a", 0, 2), ("run", 5, 0, "a", 0, 4))
        expected = [(0, 1), (0, 2), (0, 4), (3, 0), (5, 0), (5, FAR - 4)]
        self.assertEqual(expected, list(cuts(outer, {"a": inner})))
        self.assertEqual([(0, 1), (0, 4), (3, 0), (5, 0)], list(cuts(outer, {"b": inner})))
        self.assertEqual([], list(cuts(Map(), {"a": inner})))
        self.assertEqual([(0, FAR), (0, 2 * FAR)], list(cuts(
            Map(("run", 0, FAR, "a", 0, 0)), {"a": Map(("run", 0, FAR, "b", 0, 0))}
        )))

    def test_many_more_cuts_than_a_map_has_pieces(self):
        outer = Map(*[("run", line, 0, "a", 0, 0) for line in range(100)])
        inner = Map(*alternating(500))
        self.assertEqual(100 * 500, len(list(cuts(outer, {"a": inner}))))

    def test_the_level_may_be_changed_behind_the_first_cut(self):
        level = {"a": Map(("run", 0, 1, "b", 0, 0))}
        rows = cuts(Map(("run", 0, 0, "a", 0, 0), ("run", 1, 0, "a", 0, 0)), level)
        found = [next(rows)]
        level.clear()
        self.assertEqual([(0, 0), (0, 1), (1, 0), (1, 1)], found + list(rows))


class ShakenTest(unittest.TestCase):
    def test_by_the_words(self):
        for segments, one, _ in CASES:
            outer, level = Map(*segments), level_of(one)
            reached = {target_by_words(segments, line, column) for line in range(2) for column in range(WIDE + 20)}
            reached = {target[:3] for target in reached if target}
            made = shaken(outer, level)
            self.assertEqual([name for name in one if name in outer], list(made))
            for name, own_map in made.items():
                self.assertIs(Map, own_map.__class__)
                for line, column in PLACES[:3 * WIDE]:
                    expected = target_by_words(one[name], line, column) if (name, line, column) in reached else None
                    self.assertEqual(expected, own_map(line, column))
                for line in range(3):
                    targets = [own_map(line, column) for column in range(WIDE)]
                    self.assertEqual(pieces_by_words(targets, line), own_map[line])

    def test_facts(self):
        for segments, one, _ in CASES:
            outer, level = Map(*segments), level_of(one)
            made = shaken(outer, level)
            self.assertEqual(through(outer, level), through(outer, made))
            self.assertEqual(pieces_of(made), pieces_of(shaken(outer, made)))

    def test_sources_that_are_reached_without_a_target_stay(self):
        level = {"b": Map.onto("x", 1), "a": Map.onto("x", 1), "c": Map()}
        made = shaken(Map(("run", 0, 0, "a", 5, 0), ("run", 1, 0, "c", 0, 0), ("run", 2, 0, "d", 0, 0)), level)
        self.assertEqual([("a", ()), ("c", ())], pieces_of(made))

    def test_far_out(self):
        outer = Map(("run", 0, 3, "a", 0, FAR), ("point", 1, 0, "a", 0, 7))
        made = shaken(outer, {"a": Map(("run", 0, 5, "b", 0, 0))})
        expected = (("run", 0, 7, "b", 0, 2), ("gap", 0, 8), ("run", 0, FAR, "b", 0, FAR - 5))
        self.assertEqual(expected, made["a"][0])


class RefusedTest(unittest.TestCase):
    CALLS = (through, shaken, lambda *row: list(cuts(*row)), composed)

    def test_outer_maps(self):
        for value in NO_MAPS:
            for call in self.CALLS:
                fails(self, BadMap, "given", value, call, value, None)
                fails(self, BadMap, "given", value, call, value, {"": None})
            fails(self, BadMap, "given", value, composed, value)
            fails(self, BadMap, "given", value, next, cuts(value, {}))

    def test_levels(self):
        for value in NO_LEVELS:
            for call in self.CALLS:
                fails(self, BadMap, "given", value, call, Map(), value)
            fails(self, BadMap, "given", value, composed, Map(), {}, value, {"": 0})
            fails(self, BadMap, "given", value, joined_levels, {}, value, {"": 0})
            fails(self, BadMap, "given", value, joined_levels, value)

    def test_items(self):
        right = {"a": Map()}
        for call in self.CALLS + (lambda _, *levels: joined_levels(*levels),):
            for value in NO_NAMES:
                if not isinstance(value, (list, dict)):
                    fails(self, BadName, "given", value, call, Map(), {"a": Map(), value: None, "b": None})
            for value in NO_MAPS:
                fails(self, BadMap, "given", value, call, Map(), {"a": Map(), "b": value, "": Map()})
        for call in (composed, lambda _, *levels: joined_levels(*levels)):
            fails(self, BadName, "given", "", call, Map(), right, {"a": Map(), "": 5}, {"a": 0}, None)
            fails(self, BadMap, "given", 5, call, Map(), right, {"a": 5, "": 5}, None)

    def test_all_levels_come_ahead_of_too_large(self):
        small = {"a": Map(*alternating(100))}
        large = Map(*[("run", line, 0, "a", 0, 0) for line in range(101)])
        fails(self, TooLarge, "limit", 10000, composed, large, small)
        fails(self, BadName, "given", "-.!", composed, large, small, {"-.!": Map()})
        fails(self, BadMap, "given", 7, joined_levels, {"x": large}, small, 7)

    def test_calls_by_name(self):
        outer, level = Map.onto("a", 1), {"a": Map.onto("b", 1)}
        self.assertEqual(Map.onto("b", 1), through(level=level, outer=outer))
        self.assertEqual(Map.onto("a", 1), composed(outer=outer))
        self.assertEqual(level, shaken(level=level, outer=outer) | {"a": Map.onto("b", 1)})
        self.assertEqual([(0, 0)], list(cuts(level=level, outer=outer)))


class TooLargeTest(unittest.TestCase):
    def test_just_within_and_just_beyond(self):
        outer = Map(*[("run", line, 0, "a", 0, 0) for line in range(100)])
        inner = Map(*alternating(100, source="b"))
        self.assertEqual(10000, len(through(outer, {"a": inner})))
        more = outer | Map(("run", 100, 0, "b", 0, 0))
        fails(self, TooLarge, "limit", 10000, through, more, {"a": inner})
        fails(self, TooLarge, "limit", 10000, composed, more, {}, {"a": inner})

    def test_maps_in_between(self):
        outer = Map(*[("run", line, 0, "a", 0, 0) for line in range(101)])
        inner, nothing = Map(*alternating(100, source="b")), {"b": Map()}
        fails(self, TooLarge, "limit", 10000, composed, outer, {"a": inner}, nothing)
        self.assertEqual(Map(), composed(outer, {"a": Map()}, {"a": inner}))
        fails(self, TooLarge, "limit", 10000, joined_levels, {"x": outer}, {"a": inner}, nothing)
        # From the right, nothing would be too large.
        joined = joined_levels({"x": outer}, joined_levels({"a": inner}, nothing))
        self.assertEqual(Map(), joined["x"])

    def test_one_line_that_would_be_very_long(self):
        outer = Map(*[("run", 0, 6000 * index, "a", index % 2, 0) for index in range(400)])
        inner = Map(*alternating(10000, source="b"))
        fails(self, TooLarge, "limit", 10000, through, outer, {"a": inner})
        # Many stretches that come to one piece are not too large.
        words = Map(*[("run", 0, column, "b", 0, column) + (("w",) if column % 2 else ()) for column in range(5000)])
        outer = Map(*[("run", 0, 5000 * index, "a", 0, 0, "w") for index in range(40)], ("gap", 0, 200000))
        expected = Map(*[("run", 0, 5000 * index, "b", 0, 0, "w") for index in range(40)], ("gap", 0, 200000))
        self.assertEqual(expected, through(outer, {"a": words}))

    def test_a_long_line_with_just_as_many_pieces(self):
        words = Map(*[("run", 0, column, "b", 0, column) + (("w",) if column % 2 else ()) for column in range(5000)])
        # Seven runs come to one piece each, and the long one behind them ends in a gap, as the line does.
        outer = Map(
            *[("run", 0, 5000 * index, "a", 0, 0, "w") for index in range(7)], ("run", 0, 35000, "c", 0, 0),
            ("run", 0, 55000, "d", 0, 0),
        )
        for many in (9992, 9993):
            long = alternating(many, source="e", per_line=10000) + [("gap", 0, many)]
            level = {"a": words, "c": Map(*long), "d": Map()}
            if many == 9992:
                self.assertEqual(10000, len(through(outer, level)))
            else:
                fails(self, TooLarge, "limit", 10000, through, outer, level)

    def test_shaken(self):
        outer = Map(*[("point", 0, index, "a", 0, 2 * index) for index in range(5000)])
        made = shaken(outer, {"a": Map.onto("b", 1)})["a"]
        self.assertEqual(9999, len(made.closed((9998,))) + 1)
        self.assertEqual(10000, len(made))
        outer = outer | Map(("point", 1, 0, "a", 0, FAR))
        fails(self, TooLarge, "limit", 10000, shaken, outer, {"a": Map.onto("b", 1)})


class UnchangedTest(unittest.TestCase):
    def test_what_is_passed_stays(self):
        for segments, one, two in CASES[:60]:
            outer, first, second = Map(*segments), level_of(one), level_of(two)
            composed(outer, first, second), joined_levels(first, second), shaken(outer, first), list(cuts(outer, first))
            self.assertEqual(list(Map(*segments).pieces()), list(outer.pieces()))
            self.assertEqual([pieces_of(level_of(one)), pieces_of(level_of(two))], [pieces_of(first), pieces_of(second)])

    def test_one_map_in_all_places(self):
        own = ClosedMap((9,), (("run", 0, 0, "a", 0, 1, "w"), ("point", 0, 4, "a", 0, 8)))
        made = composed(own, {"a": own}, {"a": own})
        expected = [("a", 0, 3, "w"), ("a", 0, 8, "w"), ("a", 0, 8, None), None]
        self.assertEqual(expected, [made(0, column) for column in (0, 2, 4, 9)])


if __name__ == "__main__":
    unittest.main()
