"""mapstack.images: points [34] to [36]."""

import random
import unittest
from itertools import permutations

from mapstack.composing import through
from mapstack.errors import BadMap, BadName, BadNumber, BadPlace, NoPlace
from mapstack.images import Images, WordImages, joined_ranges
from mapstack.maps import ClosedMap, Map
from tests.levelcases import closed_case
from tests.mapcases import FAR, any_segments, joined, many_segments, target_by_words
from tests.support import NO_NAMES, NO_NUMBERS, fails

NO_MAPS = (True, False, None, 0, -1, "s", b"", (), ("run", 0, 0, "s", 0, 0), [], {}, {"s": Map()}, object())
# What is drawn has no beginning and no original position from this column on, but where a run or a point goes on.
WIDE = 24
CASES = many_segments(150, 81) + many_segments(150, 82, lines=3, sources="s", most=12, words=(None, None, "w", "v", "a"))
ORIGINALS = [(name, line, column) for name in "st" for line in range(2) for column in range(14)]


def places_by_words(segments, allowed=None):
    """The generated places up to a wide column, with their targets; with allowed, only those with such a word."""
    found = {}
    for line in range(3):
        for column in range(WIDE):
            target = target_by_words(segments, line, column)
            if target and (allowed is None or target[3] in allowed):
                found[line, column] = target
    return found


def images_by_words(places, original):
    """The words of [34]; what goes on up to the wide column has no end."""
    ranges = []
    for line in range(3):
        flags = [(line, column) in places and places[line, column][:3] == original for column in range(WIDE)]
        ranges += joined(flags, line)
    return tuple(ranges)


def coverage_by_words(places, source, line):
    """The words of [35], for columns in front of 10."""
    covered = {target[2] for target in places.values() if target[:2] == (source, line)}
    return [column in covered for column in range(10)]


class JoinedTest(unittest.TestCase):
    def test_every_order(self):
        rows = ([(0, 2, 4), (0, 4, 5), (0, 6, 9), (1, 0, None)], [(2, 1, 3), (2, 2, None), (2, 7, 8), (1, 0, 1)])
        expected = (((0, 2, 5), (0, 6, 9), (1, 0, None)), ((1, 0, 1), (2, 1, None)))
        for row, joined_row in zip(rows, expected):
            for order in permutations(row):
                self.assertEqual(joined_row, joined_ranges(list(order)))
                self.assertEqual(joined_row, joined_ranges(order))

    def test_same_beginning_with_and_without_end(self):
        for order in permutations([(0, 3, None), (0, 3, 5), (0, 3, 4)]):
            self.assertEqual(((0, 3, None),), joined_ranges(order))

    def test_by_the_columns(self):
        chance = random.Random(83)
        for _ in range(400):
            ranges = []
            for _ in range(chance.randrange(7)):
                first = chance.randrange(9)
                ranges.append((chance.randrange(2), first, chance.choice((None, first + 1, first + 2, first + 5))))
            expected = []
            for line in range(2):
                flags = [any(
                    row[0] == line and row[1] <= column and (row[2] is None or column < row[2]) for row in ranges
                ) for column in range(20)]
                expected += joined(flags, line)
            before = list(ranges)
            found = joined_ranges(ranges)
            self.assertIsInstance(found, tuple)
            self.assertEqual(tuple(expected), found)
            self.assertEqual(found, joined_ranges(found))
            self.assertEqual(before, ranges)

    def test_edges(self):
        self.assertEqual((), joined_ranges([]))
        self.assertEqual((), joined_ranges(()))
        big = 10 ** 99
        self.assertEqual(((big, big - 1, big + 2),), joined_ranges([(big, big, big + 2), (big, big - 1, big)]))
        self.assertEqual(((0, 0, 1), (0, 2, 3)), joined_ranges(ranges=[(0, 2, 3), (0, 0, 1)]))

    def test_refused(self):
        for value in (True, None, 0, "", "ab", b"", {}, {(0, 0, 1): 1}, {(0, 0, 1)}, object(), Map(), range(3)):
            fails(self, BadPlace, "given", None, joined_ranges, value)
        right = (0, 0, 1)
        for value in (
            None, True, 0, "abc", "", [], [0, 0, 1], (), (0, 0), (0, 0, 1, 1), (0, 0, 0), (0, 5, 5), (0, 5, 4), {},
            (0, 0, -1), (0, -1, 5), (-1, 0, 5), (0, 0, True), (0, False, 1), (True, 0, 1), (None, 0, 1), (0, None, 1),
            (0, 0, "1"), ("0", 0, 1), (0, 0, ()), ((0, 0), 1), object(),
        ):
            fails(self, BadPlace, "given", value, joined_ranges, [right, value, None])
            fails(self, BadPlace, "given", value, joined_ranges, (value, right))
        fails(self, BadPlace, "given", 0, joined_ranges, right)


class ImagesTest(unittest.TestCase):
    def check_images(self, images, places):
        """Compare all that images tell with generated places and their targets."""
        for original in ORIGINALS:
            expected = images_by_words(places, original)
            self.assertEqual(expected, images(*original))
            self.assertIs(expected != (), original in images)
            words = {target[3] for target in places.values() if target[:3] == original}
            self.assertEqual(tuple(sorted(words - {None})), images.words_at(*original))
            if expected and expected[-1][2] is not None:
                self.assertEqual((expected[-1][0], expected[-1][2] - 1), images.last_place(*original))
            else:
                fails(self, NoPlace, "given", original, images.last_place, *original)
        for source in "stx":
            for line in range(3):
                flags = coverage_by_words(places, source, line)
                coverage = images.coverage(source, line)
                covered = [any(
                    first <= column and (after is None or column < after) for _, first, after in coverage
                ) for column in range(10)]
                self.assertEqual(flags, covered)
                self.assertEqual(coverage, joined_ranges(coverage))
                self.assertTrue(all(row[0] == line for row in coverage))
            expected = [(line, images.coverage(source, line)) for line in range(3) if images.coverage(source, line)]
            self.assertEqual(expected, list(images.covered_lines(source)))

    def test_by_the_targets_at_every_column(self):
        for segments in CASES:
            self.check_images(Images(Map(*segments)), places_by_words(segments))

    def test_words_alone(self):
        for segments in CASES:
            own_map = Map(*segments)
            for word in (None, "w", "v", "x"):
                images = WordImages(own_map, word)
                self.check_images(images, places_by_words(segments, {word}))
                rows = [piece for piece in own_map.pieces() if piece[0] != "gap"]
                self.assertEqual(len([row for row in rows if (row + (None,))[6] == word]), len(images))

    def test_of_all_words(self):
        for segments in CASES:
            own_map = Map(*segments)
            every = WordImages.of_all(own_map)
            self.assertIsInstance(every, tuple)
            self.assertEqual(1 + len(own_map.words()), len(every))
            for word, images in zip((None,) + own_map.words(), every):
                self.assertIs(WordImages, images.__class__)
                for original in ORIGINALS:
                    self.assertEqual(WordImages(own_map, word)(*original), images(*original))
            self.assertEqual(len(Images(own_map)), sum(len(images) for images in every))
        self.assertEqual([0], [len(images) for images in WordImages.of_all(Map())])

    def test_len_counts_runs_and_points(self):
        for segments in CASES:
            own_map = Map(*segments)
            expected = len([piece for piece in own_map.pieces() if piece[0] != "gap"])
            self.assertEqual(expected, len(Images(own_map)))
        self.assertEqual(0, len(Images(Map())))

    def test_example_of_the_document(self):
        images = Images(Map(("run", 0, 0, "a", 3, 5), ("point", 0, 4, "a", 3, 6, "w")))
        self.assertEqual(((0, 1, 2), (0, 4, None)), images("a", 3, 6))
        self.assertEqual(((3, 5, 9),), images.coverage("a", 3))
        self.assertEqual((("w",), (8, None)), (images.words_at("a", 3, 6), images.neighbors("a", 3, 9)))

    def test_images_that_touch_are_joined(self):
        own_map = Map(("point", 0, 2, "a", 0, 5), ("run", 0, 4, "a", 0, 5, "w"), ("point", 0, 5, "a", 0, 5, "v"))
        self.assertEqual(((0, 2, None),), Images(own_map)("a", 0, 5))
        self.assertEqual(("v", "w"), Images(own_map).words_at("a", 0, 5))

    def test_neighbors_by_the_coverage(self):
        for segments in CASES:
            images, places = Images(Map(*segments)), places_by_words(segments)
            for name, line, column in ORIGINALS:
                if column < 8:
                    columns = [target[2] for target in places.values() if target[:2] == (name, line)]
                    front = [one for one in columns if one < column]
                    rear = [one for one in columns if one > column]
                    expected = (max(front) if front else None, min(rear) if rear else None)
                    self.assertEqual(expected, images.neighbors(name, line, column))

    def test_neighbors_at_the_edges(self):
        images = Images(Map(
            ("run", 0, 0, "a", 0, 3), ("gap", 0, 2), ("run", 0, 3, "a", 0, 7), ("point", 1, 0, "b", 0, 0),
            ("run", 2, 0, "c", 0, FAR - 1),
        ))
        rows = [
            ("a", 0, (None, 3)), ("a", 3, (None, 4)), ("a", 4, (3, 7)), ("a", 5, (4, 7)), ("a", 7, (4, 8)),
            ("a", FAR, (FAR - 1, FAR + 1)), ("b", 0, (None, None)), ("b", 1, (0, None)), ("d", 0, (None, None)),
            ("c", FAR - 1, (None, FAR)), ("c", FAR, (FAR - 1, FAR + 1)), ("c", 0, (None, FAR - 1)),
        ]
        for source, column, expected in rows:
            self.assertEqual(expected, images.neighbors(source, 0, column))
            self.assertEqual((None, None), images.neighbors(source, 1, column))

    def test_last_place_is_the_last_by_lines(self):
        own_map = Map(
            ("point", 0, 0, "a", 0, 0), ("run", 2, 5, "a", 0, 0), ("point", 1, 3, "b", 0, 0), ("gap", 1, 7),
            ("point", 3, 0, "c", 0, 0),
        )
        images = Images(own_map)
        self.assertEqual(((2, 5), (1, 6)), (images.last_place("a", 0, 0), images.last_place("b", 0, 0)))
        fails(self, NoPlace, "given", ("c", 0, 0), images.last_place, "c", 0, 0)
        fails(self, NoPlace, "given", ("a", 1, 0), images.last_place, "a", 1, 0)
        self.assertEqual((2, FAR + 5), images.last_place("a", 0, FAR))

    def test_far_out(self):
        images = Images(Map(("run", 0, FAR, "a", FAR, FAR), ("run", 1, 0, "a", 0, 5)))
        self.assertEqual(((0, FAR, FAR + 1),), images("a", FAR, FAR))
        self.assertEqual([(0, ((0, 5, None),)), (FAR, ((FAR, FAR, None),))], list(images.covered_lines("a")))
        self.assertTrue(("a", FAR, 2 * FAR) in images)
        self.assertEqual(((1, FAR - 5, FAR - 4),), images("a", 0, FAR))

    def test_other_values_have_no_images(self):
        images = Images(Map(("run", 0, 0, "a", 0, 0), ("point", 0, 1, "a", 1, 0)))
        self.assertTrue(("a", 1, 0) in images)
        for value in NO_NAMES + NO_MAPS + (["a", 1, 0], ("a", 1), ("a", 1, 0, None), ("a", 0, 1), ("b", 1, 0)):
            self.assertIs(False, value in images)
        for value in NO_NUMBERS:
            self.assertIs(False, ("a", value, 0) in images)
            self.assertIs(False, ("a", 1, value) in images)
        for value in NO_NAMES:
            self.assertIs(False, (value, 1, 0) in images)

    def test_closed_maps_tell_nothing_beyond_their_text(self):
        chance = random.Random(84)
        for _ in range(60):
            closed, plain = closed_case(chance)
            for original in ORIGINALS:
                self.assertEqual(Images(plain)(*original), Images(closed)(*original))
                self.assertEqual(WordImages(plain, None)(*original), WordImages(closed, None)(*original))
            self.assertEqual(list(Images(plain).covered_lines("s")), list(Images(closed).covered_lines("s")))
        self.assertEqual(((0, 0, 3),), Images(ClosedMap((3,), (("point", 0, 0, "a", 0, 0),)))("a", 0, 0))


class FactTest(unittest.TestCase):
    def test_each_position_with_a_target_is_in_the_images_of_one(self):
        for segments in CASES[:60]:
            images = Images(Map(*segments))
            for (line, column), target in places_by_words(segments).items():
                if target in [row + (target[3],) for row in ORIGINALS]:
                    found = [
                        row for row in ORIGINALS
                        for at, first, after in images(*row)
                        if at == line and first <= column and (after is None or column < after)
                    ]
                    self.assertEqual([target[:3]], found)

    def test_images_in_a_composed_map(self):
        chance = random.Random(85)
        for _ in range(80):
            outer = Map(*any_segments(chance))
            level = {name: Map(*any_segments(chance)) for name in "st"}
            made = Images(through(outer, level))
            for original in ORIGINALS:
                places = set()
                for name, inner in level.items():
                    for line, first, after in Images(inner)(*original):
                        for column in range(first, WIDE if after is None else after):
                            places |= self.columns_of(Images(outer)(name, line, column))
                expected = {place for place in places if place[1] < 10}
                self.assertEqual(expected, {place for place in self.columns_of(made(*original)) if place[1] < 10})

    @staticmethod
    def columns_of(ranges):
        return {(line, column) for line, first, after in ranges for column in range(first, after or WIDE)}


class RefusedTest(unittest.TestCase):
    def test_maps_and_words(self):
        for value in NO_MAPS:
            fails(self, BadMap, "given", value, Images, value)
            fails(self, BadMap, "given", value, WordImages, value, "")
            fails(self, BadMap, "given", value, WordImages.of_all, value)
        for value in NO_NAMES:
            if value is not None:
                fails(self, BadName, "given", value, WordImages, Map(), value)

    def test_sources_and_numbers(self):
        for images in (Images(Map(("run", 0, 0, "a", 0, 0))), WordImages(Map(), None)):
            calls = (images, images.words_at, images.neighbors, images.last_place)
            lines = (images.coverage, lambda source, _: next(images.covered_lines(source)))
            for value in NO_NAMES:
                for call in calls:
                    fails(self, BadName, "given", value, call, value, -1, -1)
                for call in lines:
                    fails(self, BadName, "given", value, call, value, -1)
            for value in NO_NUMBERS + (FAR + 1,):
                for call in calls:
                    fails(self, BadNumber, "given", value, call, "a", value, -1)
                    fails(self, BadNumber, "given", value, call, "a", 0, value)
                fails(self, BadNumber, "given", value, images.coverage, "a", value)
            self.assertEqual((), images.coverage("a", FAR))

    def test_calls_by_name(self):
        images = WordImages(word="w", map_here=Map(("point", 0, 0, "a", 0, 1, "w"), ("gap", 0, 3)))
        self.assertEqual(((0, 0, 3),), images(column=1, line=0, source="a"))
        self.assertEqual(((0, 1, 2),), images.coverage(line=0, source="a"))
        self.assertEqual([(0, ((0, 1, 2),))], list(images.covered_lines(source="a")))
        self.assertEqual(("w",), images.words_at(column=1, line=0, source="a"))
        self.assertEqual((1, None), images.neighbors(column=7, line=0, source="a"))
        self.assertEqual((0, 2), images.last_place(column=1, line=0, source="a"))
        self.assertEqual(1, len(Images(map_here=Map.onto("a", 1))))
        self.assertEqual(1, len(WordImages.of_all(map_here=Map())))


if __name__ == "__main__":
    unittest.main()
