"""mapstack.texts: points [1] and [2]."""

import unittest

from mapstack.errors import BadNumber, BadPlace, BadText, NoPlace
from mapstack.texts import (
    added, behind, end_of, extent_of, has_place, index_of, lines_of, part_of, place_of,
)
from tests.support import NO_INTEGERS, NO_NUMBERS, NO_PLACES, NO_TEXTS, fails, grid, places_of, small_texts

TEXTS = small_texts(4) + ["\n\n\n\n\n", "abc\n\ndefg\n", "x" * 50 + "\n" + "y" * 20]


class TextsTest(unittest.TestCase):
    def test_lines(self):
        self.assertEqual(("",), lines_of(""))
        self.assertEqual(("", ""), lines_of("\n"))
        self.assertEqual(("a", "", "bc", ""), lines_of("a\n\nbc\n"))
        for text in TEXTS:
            self.assertIsInstance(lines_of(text), tuple)
            self.assertEqual(text, "\n".join(lines_of(text)))
            self.assertFalse([line for line in lines_of(text) if "\n" in line])

    def test_extent_and_end(self):
        self.assertEqual((0, 0), extent_of(""))
        self.assertEqual((1, 0), extent_of("abc\n"))
        self.assertEqual((2, 3), extent_of("a\n\nabc"))
        for text in TEXTS:
            last, _ = places_of(text)[-1]
            self.assertEqual(last, extent_of(text))
            self.assertEqual(last, end_of(text))

    def test_added_is_the_extent_of_both(self):
        for one in TEXTS:
            for other in TEXTS:
                self.assertEqual(extent_of(one + other), added(extent_of(one), extent_of(other)))

    def test_behind(self):
        self.assertEqual((3, 9), behind(3, 4, "abcde"))
        self.assertEqual((5, 1), behind(3, 4, "abc\n\nd"))
        self.assertEqual((3, 10 ** 99), behind(3, 10 ** 99, ""))
        for one in small_texts(3):
            for other in small_texts(3):
                line, column = end_of(one)
                self.assertEqual(end_of(one + other), behind(line, column, other))

    def test_every_position_of_small_texts(self):
        for text in TEXTS:
            places = dict(places_of(text))
            for line, column in grid(7, 8):
                if (line, column) in places:
                    index = places[line, column]
                    self.assertIs(True, has_place(text, line, column))
                    self.assertEqual(index, index_of(text, line, column))
                    self.assertEqual((line, column), place_of(text, index))
                elif text[:1] != "x":
                    self.assertIs(False, has_place(text, line, column))
                    fails(self, NoPlace, "given", (line, column), index_of, text, line, column)

    def test_far_positions_are_virtual(self):
        far = 10 ** 99
        for line, column in ((far, 0), (0, far), (far, far)):
            self.assertIs(False, has_place("ab\n", line, column))
            fails(self, NoPlace, "given", (line, column), index_of, "ab\n", line, column)

    def test_place_of_up_to_the_length(self):
        for text in TEXTS:
            for place, index in places_of(text):
                self.assertEqual(place, place_of(text, index))
            fails(self, BadNumber, "given", len(text) + 1, place_of, text, len(text) + 1)
            fails(self, BadNumber, "given", 10 ** 99, place_of, text, 10 ** 99)

    def test_part_of_all_pairs(self):
        for text in small_texts(4):
            for low, first in places_of(text):
                for high, after in places_of(text):
                    if first <= after:
                        self.assertEqual(text[first:after], part_of(text, low, high))
                    else:
                        fails(self, BadPlace, "given", high, part_of, text, low, high)

    def test_part_of_virtual_positions(self):
        fails(self, NoPlace, "given", (0, 3), part_of, "ab\nc", (0, 3), (1, 0))
        fails(self, NoPlace, "given", (1, 2), part_of, "ab\nc", (0, 1), (1, 2))
        fails(self, NoPlace, "given", (0, 3), part_of, "ab\nc", (0, 3), (5, 0))

    def test_calls_by_name(self):
        self.assertEqual(("a",), lines_of(text="a"))
        self.assertEqual((0, 1), extent_of(text="a"))
        self.assertEqual((2, 1), added(one=(2, 0), other=(0, 1)))
        self.assertEqual((0, 3), behind(text="a", column=2, line=0))
        self.assertEqual((0, 1), end_of(text="a"))
        self.assertTrue(has_place(column=1, line=0, text="a"))
        self.assertEqual(1, index_of(column=1, line=0, text="a"))
        self.assertEqual((0, 1), place_of(index=1, text="a"))
        self.assertEqual("b", part_of(high=(0, 2), low=(0, 1), text="abc"))


class WrongKindsTest(unittest.TestCase):
    def test_no_text(self):
        for value in NO_TEXTS:
            for call in (lines_of, extent_of, end_of):
                fails(self, BadText, "place_index", None, call, value)
            fails(self, BadText, "place_index", None, behind, 0, 0, value)
            fails(self, BadText, "place_index", None, has_place, value, -1, -1)
            fails(self, BadText, "place_index", None, index_of, value, None, 99)
            fails(self, BadText, "place_index", None, place_of, value, -1)
            fails(self, BadText, "place_index", None, part_of, value, None, None)

    def test_no_number(self):
        for value in NO_NUMBERS:
            fails(self, BadNumber, "given", value, behind, value, -7, None)
            fails(self, BadNumber, "given", value, behind, 0, value, None)
            for call in (has_place, index_of):
                fails(self, BadNumber, "given", value, call, "ab", value, -7)
                fails(self, BadNumber, "given", value, call, "ab", 9, value)
            fails(self, BadNumber, "given", value, place_of, "ab", value)

    def test_no_position(self):
        for value in NO_PLACES:
            fails(self, BadPlace, "given", value, part_of, "ab", value, "other")
            fails(self, BadPlace, "given", value, part_of, "ab", (0, 0), value)
            fails(self, BadPlace, "given", value, part_of, "ab", (7, 7), value)

    def test_kinds_come_before_what_is_not_there(self):
        fails(self, BadPlace, "given", (0, 4), part_of, "ab", (0, 5), (0, 4))
        for value in NO_INTEGERS:
            fails(self, BadPlace, "given", (0, value), part_of, "ab", (9, 9), (0, value))


if __name__ == "__main__":
    unittest.main()
