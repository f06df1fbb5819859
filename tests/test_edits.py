"""mapstack.edits: points [3] and [4], the change of [9]."""

import unittest

from mapstack.edits import Edit
from mapstack.errors import BadNumber, BadPlace, BadText, NoPlace
from mapstack.texts import behind, has_place, index_of, place_of
from tests.support import NO_NUMBERS, NO_PLACES, NO_TEXTS, fails, grid, places_of, small_texts

FRESH = ("", "x", "xy", "\n", "x\n", "\ny", "x\nyz", "\n\n", "x\n\ny")
SPANS = [(low, high) for low in grid(3, 3) for high in grid(3, 3) if low <= high]
EDITS = [Edit(low, high, fresh) for low, high in SPANS for fresh in FRESH]
FAR = 10 ** 99


def slow_forward(edit, place):
    """The words of [3], case by case."""
    if place < edit.low:
        return place
    if place < edit.high:
        return None
    line, column = edit.new_high
    if place[0] == edit.high[0]:
        return line, column + place[1] - edit.high[1]
    return line + place[0] - edit.high[0], place[1]


def slow_change(old, new):
    """The change by trying all lengths."""
    front = max(k for k in range(len(old) + 1) if old[:k] == new[:k] and k <= len(new))
    most = min(len(old), len(new)) - front
    rear = max(k for k in range(most + 1) if old[len(old) - k:] == new[len(new) - k:])
    return front, len(old) - rear, new[front:len(new) - rear]


class EditTest(unittest.TestCase):
    def test_example_of_the_document(self):
        edit = Edit((0, 1), (0, 3), "x\ny")
        self.assertEqual(
            ("ax\nyd", (1, 1), None, (1, 3)), (edit("abcd"), edit.new_high, edit.forward(0, 2), edit.forward(0, 5))
        )

    def test_properties(self):
        for low, high in SPANS:
            for fresh in FRESH:
                edit = Edit(low, high, fresh)
                self.assertEqual((low, high, fresh), (edit.low, edit.high, edit.fresh))
                self.assertEqual(behind(low[0], low[1], fresh), edit.new_high)
                self.assertIs(low == high and fresh == "", edit.is_idle)

    def test_forward_by_the_words(self):
        for edit in EDITS:
            for place in grid(5, 5) + [(0, FAR), (FAR, 0), (2, FAR), (FAR, FAR)]:
                self.assertEqual(slow_forward(edit, place), edit.forward(*place))

    def test_back_is_the_inverse(self):
        for edit in EDITS:
            for place in grid(5, 6) + [(0, FAR), (1, FAR), (FAR, 0)]:
                new = edit.forward(*place)
                if new is not None:
                    self.assertEqual(place, edit.back(*new))
                old = edit.back(*place)
                if edit.low <= place < edit.new_high:
                    self.assertIsNone(old)
                else:
                    self.assertEqual(place, edit.forward(*old))

    def test_moving_keeps_the_order(self):
        for edit in EDITS:
            places = [edit.forward(*place) for place in grid(5, 5)]
            kept = [place for place in places if place is not None]
            self.assertEqual(sorted(set(kept)), kept)

    def test_signs_stand_at_their_new_positions(self):
        for text in small_texts(4):
            places = places_of(text)
            for low, first in places:
                for high, after in places[first:]:
                    for fresh in ("", "x", "x\n", "\nyz"):
                        edit = Edit(low, high, fresh)
                        new = edit(text)
                        self.assertEqual(text[:first] + fresh + text[after:], new)
                        for place, index in places:
                            moved = edit.forward(*place)
                            self.assertEqual(first <= index < after, moved is None)
                            if moved is not None and index < len(text):
                                self.assertEqual(text[index], new[index_of(new, *moved)])
                            if moved is not None and index == len(text):
                                self.assertEqual(len(new), index_of(new, *moved))

    def test_opposite(self):
        for text in small_texts(4):
            places = places_of(text)
            for low, first in places:
                for high, _ in places[first:]:
                    for fresh in ("", "x", "\n", "x\ny"):
                        edit = Edit(low, high, fresh)
                        other = edit.opposite(text)
                        self.assertEqual(text, other(edit(text)))
                        self.assertEqual((low, edit.new_high), (other.low, other.high))
                        self.assertEqual(high, other.new_high)
                        self.assertEqual(edit, other.opposite(edit(text)))

    def test_virtual_low_and_high_have_no_place(self):
        text = "ab\n\nc"
        for low, high in SPANS:
            edit = Edit(low, high, "x")
            missing = [place for place in (low, high) if not has_place(text, *place)]
            for call in (edit, edit.opposite):
                if missing:
                    fails(self, NoPlace, "given", missing[0], call, text)
                else:
                    call(text)

    def test_text_is_judged_first(self):
        edit = Edit((5, 5), (6, 0), "x")
        for value in NO_TEXTS:
            fails(self, BadText, "place_index", None, edit, value)
            fails(self, BadText, "place_index", None, edit.opposite, value)

    def test_calls_by_name(self):
        edit = Edit(fresh="x", high=(0, 2), low=(0, 1))
        self.assertEqual("axc", edit(text="abc"))
        self.assertEqual((0, 2), edit.forward(column=2, line=0))
        self.assertEqual((0, 2), edit.back(column=2, line=0))
        self.assertEqual(Edit((0, 1), (0, 2), "b"), edit.opposite(text="abc"))
        self.assertEqual(edit, Edit.between(new="axc", old="abc"))


class BetweenTest(unittest.TestCase):
    def test_all_pairs_of_small_texts(self):
        texts = small_texts(4)
        for old in texts:
            for new in texts:
                edit = Edit.between(old, new)
                self.assertEqual(new, edit(old))
                first, after, fresh = slow_change(old, new)
                expected = place_of(old, first), place_of(old, after), fresh
                self.assertEqual(expected, (edit.low, edit.high, edit.fresh))

    def test_beginning_comes_before_the_end(self):
        self.assertEqual(Edit((0, 2), (0, 2), "a"), Edit.between("aa", "aaa"))
        self.assertEqual(Edit((0, 1), (0, 3), ""), Edit.between("aba", "a"))
        self.assertTrue(Edit.between("a\nb", "a\nb").is_idle)
        self.assertEqual((1, 1), Edit.between("a\nb", "a\nb").low)

    def test_no_texts(self):
        for value in NO_TEXTS:
            fails(self, BadText, "place_index", None, Edit.between, value, "a")
            fails(self, BadText, "place_index", None, Edit.between, "a", value)


class EqualityTest(unittest.TestCase):
    def test_compares_low_high_and_fresh(self):
        edit = Edit((0, 1), (0, 2), "x")
        self.assertTrue(edit == Edit((0, 1), (0, 2), "x"))
        self.assertFalse(edit != Edit((0, 1), (0, 2), "x"))
        for other in (Edit((0, 0), (0, 2), "x"), Edit((0, 1), (0, 3), "x"), Edit((0, 1), (0, 2), "y")):
            self.assertFalse(edit == other)
            self.assertTrue(edit != other)
        self.assertNotEqual(Edit((0, 1), (0, 1), ""), Edit((0, 2), (0, 2), ""))

    def test_other_values_are_not_equal(self):
        edit = Edit((0, 1), (0, 2), "x")
        for other in (None, 0, True, "x", ((0, 1), (0, 2), "x"), [(0, 1)], {}, object()):
            self.assertFalse(edit == other)
            self.assertFalse(other == edit)
            self.assertTrue(edit != other)


class WrongKindsTest(unittest.TestCase):
    def test_exceptions_in_the_order_of_the_parameters(self):
        for value in NO_PLACES:
            fails(self, BadPlace, "given", value, Edit, value, None, None)
            fails(self, BadPlace, "given", value, Edit, (0, 0), value, None)
        for value in NO_TEXTS:
            fails(self, BadText, "place_index", None, Edit, (0, 0), (0, 0), value)

    def test_high_in_front_of_low(self):
        for low, high in (((0, 1), (0, 0)), ((1, 0), (0, 9)), ((0, FAR), (0, FAR - 1))):
            fails(self, BadPlace, "given", high, Edit, low, high, None)

    def test_no_numbers(self):
        edit = Edit((0, 1), (0, 2), "x")
        for value in NO_NUMBERS:
            for call in (edit.forward, edit.back):
                fails(self, BadNumber, "given", value, call, value, -7)
                fails(self, BadNumber, "given", value, call, 0, value)

    def test_refused_calls_change_nothing(self):
        edit = Edit((0, 1), (0, 2), "x")
        fails(self, NoPlace, "given", (0, 1), edit, "")
        fails(self, BadNumber, "given", -1, edit.forward, -1, 0)
        self.assertEqual(((0, 1), (0, 2), "x", (0, 2)), (edit.low, edit.high, edit.fresh, edit.new_high))


if __name__ == "__main__":
    unittest.main()
