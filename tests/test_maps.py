"""mapstack.maps: points [10] to [16]."""

import random
import unittest

from mapstack.edits import Edit
from mapstack.errors import BadMap, BadName, BadNumber, BadSegment, TooLarge
from mapstack.maps import Map, is_position, is_segment, is_source, is_target
from tests.mapcases import (
    END, FAR, alternating, any_segments, columns_by_words, fewest_segments, joined, many_segments, pieces_by_words,
    target_by_words,
)
from tests.support import NO_INTEGERS, NO_NAMES, NO_NUMBERS, fails

NO_TUPLES = (True, False, None, 0, 5, "", "ab", b"", [], [1], {}, object())
NO_MAPS = (True, False, None, 0, "s", (), [], {}, ("run", 0, 0, "s", 0, 0), Edit((0, 0), (0, 0), "x"), object())
CASES = many_segments(150)
PAIRS = list(zip(many_segments(150, 2), many_segments(150, 3)))
# Few sources and no words, so that runs and points often meet.
MEETING = {"lines": 1, "sources": "s", "words": (None,), "most": 8}
PAIRS += list(zip(many_segments(150, 4, **MEETING), many_segments(150, 5, **MEETING)))
CASES += many_segments(100, 6, **MEETING)


def columns_of(made, line, end=END):
    return [made(line, column) for column in range(end)]


def map_by_columns(lines):
    """The map of lists of targets, the last of which goes on; for maps without a pattern behind the end."""
    segments = []
    for line, targets in lines.items():
        segments += pieces_by_words(targets, line)
    return Map(*segments)


class FormTest(unittest.TestCase):
    def test_is_source(self):
        for name in ("a", "Z", "0", "_", "-", ".", "/", "a" * 40, "Ab9_-./z", "..", "-1"):
            self.assertIs(True, is_source(name), name)
        for value in NO_NAMES + ("a\\b", "a,b", "a ", " a", "a'b", "~", "a+b", "\x00", "\u0410"):
            self.assertIs(False, is_source(value), value)

    def test_is_position(self):
        for value in ((0, 0), (FAR, FAR), (3, 0)):
            self.assertIs(True, is_position(value))
        for value in ((FAR + 1, 0), (0, FAR + 1), (0, 0, 0), (0,), (), [0, 0], None, "ab", 0, (0, -1), (-1, 0), {}, 1):
            self.assertIs(False, is_position(value), value)
        for value in NO_INTEGERS:
            self.assertIs(False, is_position((value, 0)))
            self.assertIs(False, is_position((0, value)))

    def test_is_target(self):
        for value in (("s", 0, 0, None), ("s", 10 ** 99, 10 ** 50, "w")):
            self.assertIs(True, is_target(value))
        for value in (("s", 0, 0), ["s", 0, 0, None], ("s", 0, 0, None, None), None, (), "s", 5, {}):
            self.assertIs(False, is_target(value), value)
        for value in NO_NUMBERS:
            self.assertIs(False, is_target(("s", value, 0, None)))
            self.assertIs(False, is_target(("s", 0, value, None)))
        for value in NO_NAMES:
            self.assertIs(False, is_target((value, 0, 0, None)))
            self.assertIs(value is None, is_target(("s", 0, 0, value)))

    def test_is_segment(self):
        right = [
            ("gap", 0, 0), ("gap", FAR, FAR), ("run", 0, 0, "s", 0, 0), ("point", 0, 0, "s", 0, 0),
            ("run", FAR, FAR, "s", FAR, FAR, "w"), ("point", 1, 2, "s", 3, 4, "a" * 40),
        ]
        for value in right:
            self.assertIs(True, is_segment(value), value)
            self.assertIs(False, is_segment(list(value)), value)
            self.assertIs(False, is_segment(value + (0,)), value)
            for index, item in enumerate(value):
                others = NO_NAMES if isinstance(item, str) else NO_NUMBERS + (FAR + 1,)
                for other in others:
                    self.assertIs(False, is_segment(value[:index] + (other,) + value[index + 1:]))
        for value in (
            (), None, 0, True, "gap", {}, ("gap",), ("gap", 0), ("gap", 0, 0, "s", 0, 0), ("gap", 0, 0, "s"),
            ("run", 0, 0), ("run", 0, 0, "s", 0), ("Run", 0, 0, "s", 0, 0), ("run", 0, 0, "s", 0, 0, None),
            ("gap", 0, 0, None, None, None),
            (["run"], 0, 0, "s", 0, 0), (0, 0, 0), ("run", 0, 0, "s", 0, 0, "w", "v"),
        ):
            self.assertIs(False, is_segment(value), value)


class PiecesTest(unittest.TestCase):
    def test_example_of_the_document(self):
        made = Map(("run", 0, 0, "s", 0, 5), ("point", 0, 1, "s", 0, 6))
        self.assertEqual([("run", 0, 0, "s", 0, 5), ("point", 0, 2, "s", 0, 6)], list(made.pieces()))

    def test_lookup_and_pieces_by_the_words(self):
        for segments in CASES:
            made = Map(*segments)
            every = []
            for line in range(3):
                targets = columns_by_words(segments, line)
                self.assertEqual(targets, columns_of(made, line))
                self.assertEqual(target_by_words(segments, line, FAR), made(line, FAR))
                self.assertEqual(pieces_by_words(targets, line), made[line])
                self.assertEqual(fewest_segments(targets), len(made[line]))
                every += made[line]
            self.assertEqual(every, list(made.pieces()))
            self.assertEqual(len(every), len(made))
            self.assertIs(len(every) > 0, bool(made))
            self.assertEqual(len(every), Map.least(*segments))
            self.assertEqual(sorted({piece[1] for piece in every}), list(made.used_lines()))
            self.assertEqual(made, Map(*every))

    def test_order_of_the_segments_does_not_matter(self):
        chance = random.Random(9)
        for segments in CASES:
            others = list(segments)
            chance.shuffle(others)
            self.assertEqual(Map(*segments), Map(*others))
            self.assertEqual(Map(*segments), Map.of(tuple(others)))
            self.assertEqual(Map(*segments), Map.unbounded(tuple(others)))

    def test_needless_segments(self):
        run = ("run", 0, 2, "s", 1, 3)
        for more in (
            [("run", 0, 4, "s", 1, 5)], [("run", 0, 9, "s", 1, 10), ("gap", 0, 0)], [("gap", 0, 1)],
            [("point", 0, 3, "s", 1, 4), ("run", 0, 4, "s", 1, 5)], [("gap", 1, 0), ("gap", 7, 7)],
        ):
            self.assertEqual([run], list(Map(run, *more).pieces()))
        self.assertEqual(0, len(Map(("gap", 0, 0), ("gap", 0, 3), ("gap", 5, 1))))
        self.assertEqual(3, len(Map(run, ("gap", 0, 4), ("gap", 0, 6), ("point", 0, 7, "s", 0, 0))))

    def test_same_pieces_if_they_tell_the_same(self):
        for one, other in PAIRS + list(zip(CASES, CASES[1:])) + list(zip(CASES, CASES)):
            same = all(columns_by_words(one, line) == columns_by_words(other, line) for line in range(2))
            self.assertIs(same, Map(*one) == Map(*other))
            self.assertIs(not same, Map(*one) != Map(*other))

    def test_other_values_are_not_equal(self):
        for value in NO_MAPS:
            self.assertFalse(Map() == value)
            self.assertTrue(Map() != value)

    def test_sources_and_words(self):
        made = Map(
            ("run", 1, 0, "b", 0, 0), ("run", 0, 5, "a", 0, 0, "v"), ("gap", 0, 3), ("point", 0, 0, "c", 0, 0, "w"),
            ("run", 2, 0, "a", 0, 0, "w"), ("run", 3, 0, "d", 0, 0, "u"),
        )
        self.assertEqual(("c", "a", "b", "d"), made.sources())
        self.assertEqual(("w", "v", "u"), made.words())
        self.assertEqual(((), ()), (Map().sources(), Map().words()))
        for source in "abcd":
            self.assertIs(True, source in made)
        for value in NO_MAPS + NO_NAMES + ("w", "gap", "run", "ab"):
            self.assertIs(False, value in made)

    def test_numbers_of_calls(self):
        made = Map(("run", 2, 3, "s", 0, 1))
        for value in NO_NUMBERS + (FAR + 1, 10 ** 99):
            fails(self, BadNumber, "given", value, made, value, -1)
            fails(self, BadNumber, "given", value, made, 0, value)
            fails(self, BadNumber, "given", value, made.__getitem__, value)
        self.assertIsNone(made(FAR, FAR))
        self.assertEqual(("s", 0, FAR - 2, None), made(2, FAR))
        self.assertEqual((), made[FAR])
        with self.assertRaises(TypeError):
            list(made)

    def test_wrong_segments(self):
        right = ("run", 0, 0, "s", 0, 0)
        for value in (None, True, 0, "gap", [], (), ("run", 0, 0), ["gap", 0, 0], ("gap", 0, FAR + 1), {}, Map()):
            for make in (Map, lambda *row: Map.of(row), lambda *row: Map.least(*row)):
                fails(self, BadSegment, "index", 0, make, value, right, right)
                fails(self, BadSegment, "index", 2, make, right, right, value, value)
        for make in (Map, lambda *row: Map.of(row), lambda *row: Map.unbounded(row), Map.least):
            fails(self, BadSegment, "index", 2, make, right, ("gap", 0, 1), ("point", 0, 0, "t", 1, 1), ("gap", 0, 1))
            fails(self, BadSegment, "index", 1, make, ("gap", 3, 4), ("gap", 3, 4))
        for value in NO_TUPLES:
            fails(self, BadSegment, "index", None, Map.of, value)
            fails(self, BadSegment, "index", None, Map.unbounded, value)

    def test_unbounded_numbers(self):
        big = 10 ** 60
        made = Map.unbounded((("run", big, big, "s", big, big, "w"), ("run", 0, 4, "s", big, 0)))
        self.assertEqual([0, big], list(made.used_lines()))
        self.assertEqual(("s", big, 1, None), made(0, 5))
        self.assertEqual(("run", big, big, "s", big, big, "w"), list(made.pieces())[1])
        for value in NO_NUMBERS:
            fails(self, BadSegment, "index", 1, Map.unbounded, (("gap", 0, 0), ("gap", value, 0)))
            fails(self, BadSegment, "index", 0, Map.unbounded, (("run", 0, 0, "s", 0, value), None))
        self.assertEqual(Map(("gap", FAR, FAR), ("run", FAR, 0, "s", FAR, FAR))(FAR, 3), ("s", FAR, FAR + 3, None))

    def test_greatest_number_of_pieces(self):
        segments = alternating(10000)
        made = Map(*segments)
        self.assertEqual(10000, len(made))
        self.assertEqual(tuple(segments[5000:]), made[1])
        more = alternating(10001)
        fails(self, TooLarge, "limit", 10000, Map, *more)
        fails(self, TooLarge, "limit", 10000, Map.of, tuple(more))
        fails(self, TooLarge, "limit", 10000, Map.unbounded, tuple(more))
        fails(self, BadSegment, "index", 10001, Map, *more, None)
        self.assertEqual(1, len(Map(*[("run", 0, k, "s", 0, k) for k in range(10002)])))

    def test_calls_by_name(self):
        made = Map.of(segments=(("run", 0, 1, "s", 2, 3),))
        self.assertEqual(("s", 2, 4, None), made(column=2, line=0))
        self.assertEqual(made, Map.unbounded(segments=(("run", 0, 1, "s", 2, 3),)))
        self.assertEqual(made, made.closed(lengths=(5,)) | made)
        self.assertEqual(("s", 2, 3, None), made.placed(column=1, line=1)(1, 2))
        self.assertEqual([(0, 1, None)], list(made.unlike(other=Map())))
        self.assertEqual((0, 1), made.first_unlike(other=Map()))
        self.assertEqual(("t",), made.renamed(names={"s": "t"}).sources())
        self.assertEqual(("w",), made.worded(word="w").words())
        self.assertEqual(2, len(Map.identity(lengths=(1,), source="s")))
        self.assertEqual(2, len(Map.onto(count=2, source="s")))
        self.assertTrue(is_source(value="s") and is_position(value=(0, 0)) and is_segment(value=("gap", 0, 0)))
        self.assertTrue(is_target(value=("s", 0, 0, None)))


class OverTest(unittest.TestCase):
    def test_over_by_the_words(self):
        for one, other in PAIRS:
            made = Map(*one) | Map(*other)
            for line in range(3):
                pairs = zip(columns_by_words(one, line), columns_by_words(other, line))
                targets = [over if over is not None else under for over, under in pairs]
                self.assertEqual(targets, columns_of(made, line))
                self.assertEqual(pieces_by_words(targets, line), made[line])

    def test_facts(self):
        for (one, two), three in zip(PAIRS, CASES):
            one, two, three = Map(*one), Map(*two), Map(*three)
            self.assertEqual((one | two) | three, one | (two | three))
            self.assertEqual(one, one | one)
            self.assertEqual(one, one | Map())
            self.assertEqual(one, Map() | one)

    def test_too_large(self):
        lines = [("point", 0, 2 * k, "s", 1, k) for k in range(5000)]
        gaps = [("gap", 0, 2 * k + 1) for k in range(4999)]
        one = Map(*lines, *gaps)
        self.assertEqual(9999, len(one))
        self.assertEqual(9999, len(one | Map(("run", 0, 0, "t", 0, 0))))
        other = one | Map(("run", 0, 0, "t", 0, 0), ("run", 7, 0, "t", 0, 0))
        self.assertEqual(10000, len(other))
        fails(self, TooLarge, "limit", 10000, one.__or__, Map(("run", 7, 0, "t", 0, 0), ("run", 8, 0, "t", 0, 0)))

    def test_other_values(self):
        for value in NO_MAPS:
            if not isinstance(value, dict):
                with self.assertRaises(TypeError):
                    Map() | value


class UnlikeTest(unittest.TestCase):
    def test_unlike_by_the_words(self):
        for one, other in PAIRS + list(zip(CASES, CASES[1:])) + list(zip(CASES, CASES)):
            expected = []
            for line in range(3):
                pairs = zip(columns_by_words(one, line, 20), columns_by_words(other, line, 20))
                expected += joined([left != right for left, right in pairs], line)
            one, other = Map(*one), Map(*other)
            self.assertEqual(expected, list(one.unlike(other)))
            self.assertEqual(expected, list(other.unlike(one)))
            self.assertEqual(expected[0][:2] if expected else None, one.first_unlike(other))

    def test_run_meets_point_once(self):
        run = Map(("run", 0, 2, "s", 0, 1))
        for column, expected in (
            (0, [(0, 2, None)]), (1, [(0, 3, None)]), (2, [(0, 2, 3), (0, 4, None)]),
            (FAR, [(0, 2, FAR + 1), (0, FAR + 2, None)]),
        ):
            self.assertEqual(expected, list(run.unlike(Map(("point", 0, 2, "s", 0, column)))))
        self.assertEqual([(0, 2, None)], list(run.unlike(Map(("point", 0, 2, "s", 0, 5, "w")))))
        self.assertEqual([(0, 2, None)], list(run.unlike(Map(("point", 0, 2, "s", 1, 5)))))

    def test_other_values(self):
        for value in NO_MAPS:
            ranges = Map().unlike(value)
            fails(self, BadMap, "given", value, next, ranges)
            fails(self, BadMap, "given", value, Map(("gap", 0, 0)).first_unlike, value)


class MadeMapsTest(unittest.TestCase):
    def test_closed_by_the_words(self):
        chance = random.Random(4)
        for segments in CASES:
            lengths = tuple(chance.randrange(9) for _ in range(chance.randrange(4)))
            made = Map(*segments).closed(lengths)
            for line in range(3):
                length = lengths[line] if line < len(lengths) else 0
                targets = columns_by_words(segments, line)[:length] + [None] * (END - length)
                self.assertEqual(targets, columns_of(made, line))
                self.assertEqual(pieces_by_words(targets, line), made[line])
            self.assertEqual(made, made.closed(lengths))

    def test_closed_refuses(self):
        made = Map(*alternating(9999))
        for value in NO_TUPLES:
            fails(self, BadNumber, "given", value, made.closed, value)
        for value in NO_NUMBERS + (FAR + 1,):
            fails(self, BadNumber, "given", value, made.closed, (0, FAR, value, -7))
        self.assertEqual(10000, len(Map(*alternating(9998)).closed((FAR, 4998, 3))))
        fails(self, TooLarge, "limit", 10000, made.closed, (FAR, FAR))
        fails(self, TooLarge, "limit", 10000, Map.onto("s", 5001).closed, (1,) * 5001)
        self.assertEqual(10000, len(Map.onto("s", 5001).closed((1,) * 5000)))

    def test_placed(self):
        for segments in CASES:
            for line, column in ((0, 0), (2, 3), (FAR, FAR), (0, 1), (1, 0)):
                made = Map(*segments).placed(line, column)
                expected = [
                    (row[0], row[1] + line, row[2] + (column if row[1] == 0 else 0)) + row[3:]
                    for row in Map(*segments).pieces()
                ]
                self.assertEqual(expected, list(made.pieces()))
        for value in NO_NUMBERS + (FAR + 1,):
            fails(self, BadNumber, "given", value, Map().placed, value, None)
            fails(self, BadNumber, "given", value, Map().placed, 0, value)

    def check_told(self, made, segments, change):
        for line in range(3):
            targets = [change(target) if target else None for target in columns_by_words(segments, line)]
            self.assertEqual(targets, columns_of(made, line))
            self.assertEqual(pieces_by_words(targets, line), made[line])

    def test_only_and_without(self):
        for segments in CASES:
            made = Map(*segments)
            for names in ((), ("s",), ("t",), ("s", "t"), ("u", "s", "s")):
                self.check_told(made.only(*names), segments, lambda target: target if target[0] in names else None)
                self.check_told(made.without(*names), segments, lambda target: None if target[0] in names else target)
        for value in NO_NAMES:
            fails(self, BadName, "given", value, made.only, "s", value, None)
            fails(self, BadName, "given", value, made.without, "s", value, None)

    def test_renamed(self):
        for segments in CASES:
            made = Map(*segments)
            for names in ({}, {"s": "t"}, {"s": "t", "t": "s"}, {"s": "x", "t": "x"}, {"u": "v"}, {"t": "t"}):
                change = names.get
                self.check_told(
                    made.renamed(names), segments, lambda target: (change(target[0], target[0]),) + target[1:]
                )
        self.assertEqual(1, len(Map(("run", 0, 0, "s", 0, 0), ("run", 0, 3, "t", 0, 3)).renamed({"s": "t"})))

    def test_renamed_refuses(self):
        made = Map(("run", 0, 0, "s", 0, 0))
        for value in NO_MAPS:
            if not isinstance(value, dict):
                fails(self, BadName, "given", value, made.renamed, value)
        for value in NO_NAMES:
            fails(self, BadName, "given", value, made.renamed, {"s": "t", "u": value, "": 0})
            if not isinstance(value, (list, dict)):
                fails(self, BadName, "given", value, made.renamed, {"s": "t", value: None, "u": 0})

    def test_renamed_keeps_no_dict(self):
        names = {"s": "t"}
        made = Map(("run", 0, 0, "s", 0, 0)).renamed(names)
        names["s"] = "u"
        self.assertEqual({"s": "u"}, names)
        self.assertEqual(("t",), made.sources())

    def test_worded(self):
        for segments in CASES:
            made = Map(*segments)
            self.check_told(made.worded("new"), segments, lambda target: target[:3] + ("new",))
            self.check_told(made.worded(), segments, lambda target: target[:3] + (None,))
            self.assertEqual(made.worded(), made.worded(None))
        for value in NO_NAMES:
            if value is not None:
                fails(self, BadName, "given", value, made.worded, value)

    def test_identity(self):
        made = Map.identity("s", (3, 0, 1))
        self.assertEqual(
            [("run", 0, 0, "s", 0, 0), ("gap", 0, 3), ("run", 2, 0, "s", 2, 0), ("gap", 2, 1)], list(made.pieces())
        )
        self.assertEqual(Map(), Map.identity("s", ()))
        self.assertEqual(Map(), Map.identity("s", (0,) * 20000))
        self.assertEqual(10000, len(Map.identity("s", (1,) * 5000)))
        fails(self, TooLarge, "limit", 10000, Map.identity, "s", (1,) * 5001)
        for value in NO_NAMES:
            fails(self, BadName, "given", value, Map.identity, value, None)
        for value in NO_TUPLES:
            fails(self, BadNumber, "given", value, Map.identity, "s", value)
        for value in NO_NUMBERS + (FAR + 1,):
            fails(self, BadNumber, "given", value, Map.identity, "s", (1, value, -9))

    def test_onto(self):
        self.assertEqual([("run", k, 0, "s", k, 0) for k in range(4)], list(Map.onto("s", 4).pieces()))
        self.assertEqual(Map(), Map.onto("s", 0))
        self.assertEqual(10000, len(Map.onto("s", 10000)))
        fails(self, TooLarge, "limit", 10000, Map.onto, "s", 10001)
        fails(self, TooLarge, "limit", 10000, Map.onto, "s", FAR)
        for value in NO_NAMES:
            fails(self, BadName, "given", value, Map.onto, value, None)
        for value in NO_NUMBERS + (FAR + 1,):
            fails(self, BadNumber, "given", value, Map.onto, "s", value)

    def test_calls_change_nothing(self):
        for segments in CASES[:40]:
            made, other = Map(*segments), Map(*CASES[5])
            before = list(made.pieces())
            made.closed((2, 2)), made.placed(1, 1), made.only("s"), made.without("s"), made.renamed({"s": "x"})
            made.worded("w"), made | other, list(made.unlike(other)), made[0], made.sources(), made.words()
            self.assertEqual(before, list(made.pieces()))


class ClosedFactTest(unittest.TestCase):
    def test_identity_is_closed_onto(self):
        chance = random.Random(8)
        for _ in range(50):
            lengths = tuple(chance.randrange(5) for _ in range(chance.randrange(5)))
            self.assertEqual(Map.onto("s", len(lengths)).closed(lengths), Map.identity("s", lengths))

    def test_only_over_without_is_the_map(self):
        chance = random.Random(6)
        for _ in range(100):
            made = Map(*any_segments(chance))
            self.assertEqual(made, made.only("s") | made.without("s"))


if __name__ == "__main__":
    unittest.main()
