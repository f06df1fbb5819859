"""mapstack.bundles: points [43] to [46]."""

import random
import unittest
from itertools import combinations_with_replacement

from mapstack.bundles import Bundle, cut
from mapstack.errors import BadMap, BadNumber, BadPart, BadPlace, BadText, NoPlace, TooLarge
from mapstack.maps import ClosedMap, Map
from tests.levelcases import closed_case
from tests.mapcases import FAR, alternating, any_segments, many_segments, target_by_words
from tests.support import NO_INTEGERS, NO_PLACES, NO_TEXTS, fails, grid, places_of, small_texts

NO_MAPS = (True, False, None, 0, -1, "s", b"", (), ("run", 0, 0, "s", 0, 0), [], {}, {"s": Map()}, object())
NO_TUPLES = (True, False, None, 0, 5, "", "ab", b"", [], [("", Map())], {}, object(), Map())
WRONG_PLACES = NO_PLACES + ((FAR + 1, 0), (0, FAR + 1))
PLACES = grid(6, 14) + [(0, FAR), (1, FAR), (FAR, FAR)]
CHANCE = random.Random(111)
TEXTS = ("", "", "a", "bc", "\n", "x\n", "\ny", "ab\ncd", "abc\n\nde", "\n\n", "a\nb\n")
# Rows of texts with segments, which often go beyond their text.
CASES = [
    [(CHANCE.choice(TEXTS), any_segments(CHANCE, lines=3)) for _ in range(CHANCE.randrange(5))] for _ in range(150)
]


def bundle_of(case):
    return Bundle(*[(text, Map(*segments)) for text, segments in case])


def end_by_words(text):
    """The position of the last place of a text."""
    return places_of(text)[-1][0]


def begins_by_words(case):
    """The place in the whole text at which each part begins, and its end."""
    texts = [text for text, _ in case]
    return [end_by_words("".join(texts[:number])) for number in range(len(texts) + 1)]


def lies_by_words(case, place):
    """The words of [44]: the number of the part and the place there, or None."""
    begins = begins_by_words(case)
    if place >= begins[-1]:
        return None
    number = max(index for index, begin in enumerate(begins[:-1]) if begin <= place)
    line, column = begins[number]
    if place[0] == line:
        return number, 0, place[1] - column
    return number, place[0] - line, place[1]


def told_by_words(case, place):
    """What the whole map of a bundle tells."""
    found = lies_by_words(case, place)
    return None if found is None else target_by_words(case[found[0]][1], *found[1:])


class WholeTest(unittest.TestCase):
    def test_text_and_map_at_every_position(self):
        for case in CASES:
            bundle = bundle_of(case)
            self.assertEqual("".join(text for text, _ in case), bundle.whole_text())
            own_map = bundle.whole_map()
            self.assertIs(Map, own_map.__class__)
            self.assertEqual([told_by_words(case, place) for place in PLACES], [own_map(*place) for place in PLACES])

    def test_parts_are_cut_off(self):
        for case in CASES:
            bundle = bundle_of(case)
            parts = list(bundle.parts())
            self.assertEqual([text for text, _ in case], [text for text, _ in parts])
            self.assertEqual(len(case), len(bundle))
            for number, ((text, segments), part) in enumerate(zip(case, parts)):
                self.assertIsInstance(part, tuple)
                self.assertEqual(part, bundle[number])
                end = end_by_words(text)
                for place in PLACES:
                    expected = target_by_words(segments, *place) if place < end else None
                    self.assertEqual(expected, part[1](*place))

    def test_other_lines_of_a_part_have_no_end(self):
        own_map = Map(("run", 0, 0, "s", 0, 0), ("run", 1, 0, "s", 1, 0), ("run", 2, 0, "s", 2, 0))
        bundle = Bundle(("a\nb", own_map), ("", own_map), ("c\n", own_map))
        made = bundle.whole_map()
        self.assertEqual(("s", 0, FAR, None), made(0, FAR))
        self.assertEqual([("s", 1, 0, None), ("s", 0, 0, None), ("s", 0, FAR - 1, None)], [
            made(1, column) for column in (0, 1, FAR)
        ])
        self.assertIsNone(made(2, 0))
        self.assertEqual((("run", 0, 0, "s", 0, 0),), bundle[0][1][0])
        self.assertEqual((("run", 1, 0, "s", 1, 0), ("gap", 1, 1)), bundle[0][1][1])
        self.assertEqual(("", Map()), bundle[1])

    def test_joints(self):
        for case in CASES:
            self.assertEqual(begins_by_words(case)[:-1], list(bundle_of(case).joints()))
        self.assertEqual([], list(Bundle().joints()))
        self.assertEqual([(0, 0)], list(Bundle(("", Map())).joints()))

    def test_empty_bundle(self):
        bundle = Bundle()
        self.assertEqual(("", Map(), 0, []), (bundle.whole_text(), bundle.whole_map(), len(bundle), list(bundle.parts())))
        self.assertFalse(bundle)
        fails(self, NoPlace, "given", (0, 0), bundle.lies_in, 0, 0)

    def test_closed_maps_are_as_the_maps_that_they_equal(self):
        chance = random.Random(112)
        for _ in range(60):
            closed, plain = closed_case(chance)
            text = chance.choice(TEXTS)
            one, other = Bundle((text, closed), ("ab", closed)), Bundle((text, plain), ("ab", plain))
            self.assertEqual(other, one)
            self.assertEqual(list(other.parts()), list(one.parts()))
            for own_map in [one.whole_map(), one[0][1], cut(closed, (0, 0))] + [part[1] for part in one.parts()]:
                self.assertIs(Map, own_map.__class__)
            self.assertEqual(cut(plain, (0, 1), (1, 3)), cut(closed, (0, 1), (1, 3)))

    def test_too_large_when_a_map_is_made(self):
        large = Map(*[("run", 0, column, "s", column % 2, 5 * column) for column in range(10000)])
        text = "a" * 10000
        bundle = Bundle((text, large)) + Bundle()
        self.assertEqual((text, 1), (bundle.whole_text(), len(bundle)))
        fails(self, TooLarge, "limit", 10000, bundle.whole_map)
        fails(self, TooLarge, "limit", 10000, bundle.__getitem__, 0)
        parts = Bundle(("a", Map()), (text, large)).parts()
        fails(self, TooLarge, "limit", 10000, next, parts)
        self.assertTrue(bundle == Bundle((text, large)) and bundle)
        self.assertEqual(large, cut(large, (0, 0)))
        fails(self, TooLarge, "limit", 10000, cut, large, (0, 0), (0, 10000))
        self.assertEqual(10000, len(cut(large, (0, 0), (0, 9999))))


class PlacesTest(unittest.TestCase):
    def test_lies_in_by_the_words(self):
        for case in CASES:
            bundle = bundle_of(case)
            for place in PLACES:
                expected = lies_by_words(case, place)
                if expected is None:
                    fails(self, NoPlace, "given", place, bundle.lies_in, *place)
                else:
                    self.assertEqual(expected, bundle.lies_in(*place))
                    self.assertEqual(place, bundle.stands_at(*expected))

    def test_stands_at_by_the_words(self):
        for case in CASES:
            bundle, begins = bundle_of(case), begins_by_words(case)
            for number, (text, _) in enumerate(case):
                line, column = begins[number]
                for place in PLACES:
                    if place < end_by_words(text):
                        expected = (line + place[0], place[1] + (column if place[0] == 0 else 0))
                        self.assertEqual(expected, bundle.stands_at(number, *place))
                        if max(expected) <= FAR:
                            self.assertEqual((number,) + place, bundle.lies_in(*expected))
                    else:
                        fails(self, NoPlace, "given", place, bundle.stands_at, number, *place)

    def test_refused(self):
        bundle = Bundle(("ab\n", Map()), ("c", Map()))
        for value in NO_INTEGERS + (-1, 2, 10 ** 99):
            fails(self, BadNumber, "given", value, bundle.stands_at, value, None, -1)
            fails(self, BadNumber, "given", value, bundle.__getitem__, value)
        for value in NO_INTEGERS + (-1, FAR + 1, 10 ** 99):
            for place in ((value, 0), (0, value)):
                fails(self, BadPlace, "given", place, bundle.lies_in, *place)
                fails(self, BadPlace, "given", place, bundle.stands_at, 1, *place)
        with self.assertRaises(TypeError):
            list(bundle)


class MadeTest(unittest.TestCase):
    def test_refused_parts(self):
        right = ("a", Map())
        wrong = [
            None, True, 0, "ab", "", [], ["a", Map()], (), ("a",), ("a", Map(), 0), (Map(), "a"), {}, Map(), Bundle(),
        ]
        wrong += [(value, Map()) for value in NO_TEXTS] + [("a", value) for value in NO_MAPS]
        for value in wrong:
            fails(self, BadPart, "index", 0, Bundle, value, None)
            fails(self, BadPart, "index", 2, Bundle, right, right, value, None)
            fails(self, BadPart, "index", 1, Bundle.of, (right, value, None))
        for value in NO_TUPLES:
            fails(self, BadPart, "index", None, Bundle.of, value)

    def test_of_a_tuple(self):
        for case in CASES[:40]:
            parts = tuple((text, Map(*segments)) for text, segments in case)
            self.assertEqual(Bundle(*parts), Bundle.of(parts))
            self.assertEqual(list(Bundle(*parts).parts()), list(Bundle.of(parts=parts).parts()))

    def test_sums(self):
        for one, other, third in zip(CASES, CASES[1:], CASES[2:]):
            made = bundle_of(one) + bundle_of(other)
            self.assertEqual(list(bundle_of(one + other).parts()), list(made.parts()))
            self.assertEqual(bundle_of(one + other), made)
            self.assertEqual((len(one) + len(other)), len(made))
            left, right = made + bundle_of(third), bundle_of(one) + (bundle_of(other) + bundle_of(third))
            self.assertEqual(left, right)
            self.assertEqual(list(left.parts()), list(right.parts()))
        for value in NO_MAPS:
            with self.assertRaises(TypeError):
                made + value

    def test_facts_of_bundling(self):
        chance = random.Random(113)
        for case in CASES:
            # A bundle of bundles is the bundle of all parts.
            at = chance.randrange(len(case) + 1)
            halves = [bundle_of(case[:at]), bundle_of(case[at:])]
            made = Bundle(*[(half.whole_text(), half.whole_map()) for half in halves])
            self.assertEqual(bundle_of(case), made)
            wide = case[:at] + [("", any_segments(chance))] + case[at:]
            self.assertEqual(bundle_of(case), bundle_of(wide))

    def test_equality(self):
        own_map = Map(("run", 0, 0, "s", 0, 0))
        one = Bundle(("ab", own_map))
        self.assertEqual(one, Bundle(("a", own_map), ("b", Map(("run", 0, 0, "s", 0, 1)))))
        self.assertEqual(one, Bundle(("ab", own_map.closed((2,)))))
        self.assertNotEqual(one, Bundle(("ab", own_map.closed((1,)))))
        self.assertNotEqual(one, Bundle(("ac", own_map)))
        self.assertNotEqual(Bundle(("a\n", own_map)), Bundle(("a\n", own_map.closed((1,)))))
        for value in NO_MAPS + ("ab",):
            self.assertFalse(one == value)
            self.assertTrue(one != value)

    def test_truth(self):
        for case in CASES:
            self.assertIs(any(text for text, _ in case), bool(bundle_of(case)))
        self.assertIs(False, bool(Bundle(("", Map.onto("s", 1)))))
        self.assertIs(True, bool(Bundle(("", Map()), ("\n", Map()))))

    def test_calls_by_name(self):
        bundle = Bundle.cut_up(joints=((0, 1),), map_here=Map.onto("s", 1), text="ab")
        self.assertEqual((1, 0, 0), bundle.lies_in(column=1, line=0))
        self.assertEqual((0, 1), bundle.stands_at(column=0, line=0, number=1))
        self.assertEqual(Map(("run", 0, 0, "s", 0, 1), ("gap", 0, 2)), cut(end=(0, 3), begin=(0, 1), map_here=Map.onto("s", 1)))


class CutTest(unittest.TestCase):
    def test_by_the_words(self):
        places = grid(3, 8) + [(1, FAR)]
        for segments in many_segments(40, 114, lines=3):
            own_map = Map(*segments)
            for begin in places:
                for end in [None] + [place for place in places if place >= begin][::5] + [begin]:
                    made = cut(own_map, begin, end)
                    self.assertIs(Map, made.__class__)
                    for line, column in grid(4, 12):
                        old = (begin[0] + line, column + (begin[1] if line == 0 else 0))
                        expected = target_by_words(segments, *old) if end is None or old < end else None
                        self.assertEqual(expected, made(line, column))

    def test_from_the_beginning(self):
        for segments in many_segments(40, 115, lines=3):
            own_map = Map(*segments)
            self.assertEqual(own_map, cut(own_map, (0, 0)))
            self.assertEqual(Map(), cut(own_map, (0, 0), (0, 0)))
            self.assertEqual(Map(), cut(own_map, (FAR, FAR)))
            self.assertEqual(own_map.closed((FAR, 4)), cut(own_map, (0, 0), (1, 4)).closed((FAR, FAR)))

    def test_refused(self):
        for value in NO_MAPS:
            fails(self, BadMap, "given", value, cut, value, None, 0)
        for value in WRONG_PLACES:
            fails(self, BadPlace, "given", value, cut, Map(), value, value)
            if value is not None:
                fails(self, BadPlace, "given", value, cut, Map(), (0, 0), value)
        for begin, end in (((0, 1), (0, 0)), ((1, 0), (0, FAR)), ((FAR, FAR), (FAR, FAR - 1))):
            fails(self, BadPlace, "given", end, cut, Map(), begin, end)
        fails(self, BadPlace, "given", None, cut, Map(), None)


class CutUpTest(unittest.TestCase):
    def test_all_joints_of_small_texts(self):
        chance = random.Random(116)
        for text in small_texts(3) + ["ab\nc\n", "a\n\nbc"]:
            places = [place for place, _ in places_of(text)]
            indexes = dict(places_of(text))
            segments = any_segments(chance, columns=4)
            own_map = Map(*segments)
            for joints in [row for many in range(3) for row in combinations_with_replacement(places, many)]:
                bundle = Bundle.cut_up(text, own_map, joints)
                begins = ((0, 0),) + joints
                ends = joints + (places[-1],)
                self.assertEqual(list(begins), list(bundle.joints()))
                expected = [text[indexes[begin]:indexes[end]] for begin, end in zip(begins, ends)]
                self.assertEqual(expected, [part[0] for part in bundle.parts()])
                for begin, end, part in zip(begins, ends, bundle.parts()):
                    self.assertEqual(cut(own_map, begin, end), part[1])
                self.assertEqual(text, bundle.whole_text())
                self.assertEqual(Bundle((text, own_map)), bundle)

    def test_a_closed_map_comes_back(self):
        chance = random.Random(117)
        for _ in range(150):
            text = chance.choice(TEXTS)
            lengths = tuple(len(line) for line in text.split("\n"))
            own_map = Map(*any_segments(chance, lines=3)).closed(lengths)
            places = [place for place, _ in places_of(text)]
            joints = tuple(sorted(chance.choice(places) for _ in range(chance.randrange(4))))
            self.assertEqual(own_map, Bundle.cut_up(text, own_map, joints).whole_map())
            self.assertEqual(own_map, Bundle.cut_up(text, ClosedMap(lengths, tuple(own_map.pieces())), joints).whole_map())

    def test_cuts_of_a_bundle_at_its_joints(self):
        for case in CASES:
            bundle = bundle_of(case)
            text, own_map, joints = bundle.whole_text(), bundle.whole_map(), tuple(bundle.joints())
            for begin, end, part in zip(joints, joints[1:] + (end_by_words(text),), bundle.parts()):
                self.assertEqual(part[1], cut(own_map, begin, end))
            parts = list(Bundle.cut_up(text, own_map, joints).parts())
            self.assertEqual([("", Map())] + list(bundle.parts()), parts if joints else parts[:1])

    def test_without_joints(self):
        own_map = Map(("run", 0, 1, "s", 0, 0))
        self.assertEqual([("ab", own_map.closed((2,)))], list(Bundle.cut_up("ab", own_map).parts()))
        self.assertEqual([("", Map())], list(Bundle.cut_up("", own_map, ()).parts()))

    def test_refused(self):
        for value in NO_TEXTS:
            fails(self, BadText, "place_index", None, Bundle.cut_up, value, None, None)
        for value in NO_MAPS:
            fails(self, BadMap, "given", value, Bundle.cut_up, "a", value, None)
        for value in (True, None, 0, "", "ab", b"", [], [(0, 0)], {}, object()):
            fails(self, BadPlace, "given", value, Bundle.cut_up, "ab\nc", Map(), value)
        outside = WRONG_PLACES + ((0, 3), (1, 2), (2, 0), (FAR, FAR))
        for value in outside + ((0, 0), (0, 1)):
            fails(self, BadPlace, "given", value, Bundle.cut_up, "ab\nc", Map(), ((0, 2), value, None))
        for value in outside:
            fails(self, BadPlace, "given", value, Bundle.cut_up, "ab\nc", Map(), (value, (0, 0)))


class UnchangedTest(unittest.TestCase):
    def test_calls_change_nothing(self):
        for case in CASES[:40]:
            bundle = bundle_of(case)
            before = (bundle.whole_text(), bundle.whole_map(), list(bundle.parts()), list(bundle.joints()))
            bundle + bundle, bundle == bundle, bool(bundle), len(bundle), Bundle.of(tuple(bundle.parts()))
            self.assertEqual(before, (bundle.whole_text(), bundle.whole_map(), list(bundle.parts()), list(bundle.joints())))

    def test_many_pieces_in_one_map(self):
        own_map = Map(*alternating(9000))
        bundle = Bundle.cut_up("ab\n" * 3000, own_map, tuple((line, 1) for line in range(0, 3000, 10)))
        self.assertEqual(301, len(bundle))
        self.assertEqual(own_map, bundle.whole_map())


if __name__ == "__main__":
    unittest.main()
