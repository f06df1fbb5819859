"""mapstack.maps: class ClosedMap."""

import random
import unittest

from mapstack.errors import BadNumber, BadSegment, NoPlace, TooLarge
from mapstack.maps import ClosedMap, Map
from mapstack.maptexts import map_text
from tests.mapcases import FAR, alternating, any_segments, many_segments
from tests.support import NO_NUMBERS, fails

LENGTHS = (5, 0, 8)
CASES = many_segments(60, 11, lines=4) + many_segments(60, 12, lines=3, most=14)
NO_TUPLES = (True, False, None, 0, 5, "", "ab", b"", [], [1], {}, object())


class ClosedMapTest(unittest.TestCase):
    def test_tells_what_the_closed_map_tells(self):
        for segments in CASES:
            made, plain = ClosedMap(LENGTHS, tuple(segments)), Map(*segments).closed(LENGTHS)
            self.assertEqual(list(plain.pieces()), list(made.pieces()))
            self.assertTrue(made == plain and plain == made)
            self.assertEqual(LENGTHS, made.lengths)
            for line, length in enumerate(LENGTHS):
                self.assertEqual(plain[line], made[line])
                for column in range(length + 1):
                    self.assertEqual(plain(line, column), made(line, column))
                self.assertIsNone(made(line, length))

    def test_no_place_beyond_the_text(self):
        made = ClosedMap(LENGTHS, (("run", 0, 0, "s", 0, 0), ("run", 3, 0, "s", 0, 0)))
        for place in ((0, 6), (0, FAR), (1, 1), (2, 9), (3, 0), (FAR, FAR)):
            fails(self, NoPlace, "given", place, made, *place)
        for line in (3, 4, FAR):
            fails(self, NoPlace, "given", line, made.__getitem__, line)
        fails(self, NoPlace, "given", (0, 0), ClosedMap(()), 0, 0)

    def test_no_numbers_come_first(self):
        made = ClosedMap((2,))
        for value in NO_NUMBERS + (FAR + 1,):
            fails(self, BadNumber, "given", value, made, value, None)
            fails(self, BadNumber, "given", value, made, 7, value)
            fails(self, BadNumber, "given", value, made.__getitem__, value)

    def test_errors_in_their_order(self):
        wrong = (None,)
        for value in NO_TUPLES:
            fails(self, BadNumber, "given", value, ClosedMap, value, wrong)
            fails(self, BadSegment, "index", None, ClosedMap, (1,), value)
        for value in NO_NUMBERS + (FAR + 1,):
            fails(self, BadNumber, "given", value, ClosedMap, (0, FAR, value, None), wrong)
        fails(self, BadSegment, "index", 1, ClosedMap, (), (("gap", 0, 0), None))
        fails(self, BadSegment, "index", 1, ClosedMap, (), (("gap", 0, 0), ("gap", 0, 0)))
        fails(self, TooLarge, "limit", 10000, ClosedMap, (), tuple(alternating(10001)))
        fails(self, TooLarge, "limit", 10000, ClosedMap, (FAR, FAR), tuple(alternating(9999)))
        self.assertEqual(10000, len(ClosedMap((FAR, FAR), tuple(alternating(9998)))))
        self.assertEqual(0, len(ClosedMap((), tuple(alternating(10000)))))

    def test_share(self):
        self.assertEqual((0, 0), ClosedMap(()).share())
        self.assertEqual((0, 13), ClosedMap(LENGTHS).share())
        for segments in CASES:
            made = ClosedMap(LENGTHS, tuple(segments))
            places = [(line, column) for line, length in enumerate(LENGTHS) for column in range(length)]
            self.assertEqual((len([place for place in places if made(*place)]), len(places)), made.share())
        self.assertEqual((FAR, 2 * FAR), ClosedMap((FAR, FAR), (("point", 1, 0, "s", 0, 0),)).share())

    def test_grown(self):
        for segments in CASES:
            made = ClosedMap(LENGTHS, tuple(segments))
            grown = made.grown(3, 0, 2)
            self.assertIsInstance(grown, ClosedMap)
            self.assertEqual(LENGTHS + (3, 0, 2), grown.lengths)
            self.assertEqual(LENGTHS, made.lengths)
            self.assertEqual(made, grown)
            self.assertEqual(((), None), (grown[3], grown(5, 2)))
            fails(self, NoPlace, "given", (5, 3), grown, 5, 3)
            fails(self, NoPlace, "given", (3, 0), made, 3, 0)
        self.assertEqual(LENGTHS, made.grown().lengths)
        for value in NO_NUMBERS + (FAR + 1,):
            fails(self, BadNumber, "given", value, made.grown, 1, value, -5)

    def test_grown_beyond_the_numbers_of_segments(self):
        segments = (("point", 0, 0, "s", 0, FAR), ("run", 0, 1, "s", 0, FAR))
        made = ClosedMap((5,), segments)
        self.assertEqual(("run", 0, 2, "s", 0, FAR + 1), made[0][1])
        self.assertEqual(made, made.grown(4))

    def test_all_else_is_as_the_equal_map(self):
        chance = random.Random(2)
        for segments in CASES:
            made, plain = ClosedMap(LENGTHS, tuple(segments)), Map(*segments).closed(LENGTHS)
            other = Map(*any_segments(chance, lines=5))
            for one, two in (
                (made | other, plain | other), (other | made, other | plain), (made.placed(7, 9), plain.placed(7, 9)),
                (made.closed((9, 9, 9, 9)), plain.closed((9, 9, 9, 9))), (made.only("s"), plain.only("s")),
                (made.without("s"), plain.without("s")), (made.renamed({"s": "x"}), plain.renamed({"s": "x"})),
                (made.worded("x"), plain.worded("x")), (made | made, plain),
            ):
                self.assertEqual(one, two)
                self.assertIs(Map, one.__class__)
            self.assertEqual(list(plain.unlike(other)), list(made.unlike(other)))
            self.assertEqual(other.first_unlike(plain), other.first_unlike(made))
            self.assertEqual((len(plain), bool(plain), "s" in plain), (len(made), bool(made), "s" in made))
            self.assertEqual((plain.sources(), plain.words()), (made.sources(), made.words()))
            self.assertEqual(list(plain.used_lines()), list(made.used_lines()))
            self.assertEqual(map_text(plain), map_text(made))

    def test_made_by_the_class_are_plain_maps(self):
        segment = ("run", 0, 0, "s", 0, 0)
        for made in (
            ClosedMap.of((segment,)), ClosedMap.unbounded((segment,)), ClosedMap.identity("s", (2,)),
            ClosedMap.onto("s", 1), ClosedMap((1,), (segment,)).onto("s", 1),
        ):
            self.assertIs(Map, made.__class__)
        self.assertEqual(1, ClosedMap.least(segment))
        self.assertEqual(Map(segment), ClosedMap.of((segment,)))

    def test_calls_by_name(self):
        made = ClosedMap(segments=(("run", 0, 0, "s", 0, 0),), lengths=(2,))
        self.assertEqual(("s", 0, 1, None), made(column=1, line=0))


if __name__ == "__main__":
    unittest.main()
