"""mapstack.patches: points [5] to [9]."""

import random
import unittest
from itertools import combinations

from mapstack.edits import Edit
from mapstack.errors import BadEdit, BadNumber, BadText, Clash, NoPlace, TooLarge
from mapstack.patches import Patch
from mapstack.texts import end_of, has_place, place_of
from tests.support import NO_NUMBERS, NO_TEXTS, fails, grid, small_texts

FAR = 10 ** 99
PLACES = grid(6, 7) + [(0, FAR), (2, FAR), (FAR, 0), (FAR, FAR)]
NO_PATCHES = (None, True, 0, "a", b"", (), [], {}, Edit((0, 0), (0, 0), "x"), object())


def edit_at(text, first, after, fresh):
    return Edit(place_of(text, first), place_of(text, after), fresh)


def all_edits(text, fresh=("", "x", "\n")):
    many = len(text) + 1
    return [edit_at(text, first, after, new) for first in range(many) for after in range(first, many) for new in fresh]


def all_patches(text, most=2, fresh=("", "x", "\n")):
    """All patches of a text with up to so many edits."""
    edits = [edit for edit in all_edits(text, fresh) if not edit.is_idle]
    patches = [Patch()]
    for many in range(1, most + 1):
        for row in combinations(edits, many):
            if all(one.high < other.low for one, other in zip(row, row[1:])):
                patches.append(Patch(*row))
    return patches


def edits_of(patch):
    return list(patch.each())


def any_edit(chance, text, most=3):
    first = chance.randrange(len(text) + 1)
    after = min(len(text), first + chance.randrange(most))
    return edit_at(text, first, after, "".join(chance.choice("xyz\n") for _ in range(chance.randrange(4))))


def any_patch(chance, text):
    edits = []
    for _ in range(chance.randrange(4)):
        edit = any_edit(chance, text)
        if not edit.is_idle and (not edits or edits[-1].high < edit.low):
            edits.append(edit)
    return Patch(*edits)


def patch_by_signs(text, edits):
    """The edits in turn, found by telling which signs of the old text are left."""
    signs = list(enumerate(text))
    for edit in edits:
        now = "".join(sign for _, sign in signs)
        first, after = (sum(place_of(now, k) < place for k in range(len(now))) for place in (edit.low, edit.high))
        signs[first:after] = [(None, sign) for sign in edit.fresh]
    made, first, fresh = [], 0, ""
    for index, sign in signs + [(len(text), "")]:
        if index is None:
            fresh += sign
        else:
            if first < index or fresh:
                made.append(edit_at(text, first, index, fresh))
            first, fresh = index + 1, ""
    return Patch(*made)


def led_by_all(edits, place, names):
    for edit in edits:
        if place is not None:
            place = getattr(edit, names)(*place)
    return place


class PatchTest(unittest.TestCase):
    def test_edits_are_made_at_once(self):
        for text in small_texts(4, "a\n"):
            for patch in all_patches(text):
                edits = edits_of(patch)
                slow = text
                for edit in reversed(edits):
                    slow = edit(slow)
                self.assertEqual(slow, patch(text))
                self.assertEqual(text, patch.opposite(text)(slow))
                self.assertEqual(patch, patch.opposite(text).opposite(slow))

    def test_ways_of_all_positions(self):
        for text in ("ab\na", "\n\na"):
            for patch in all_patches(text, 3, ("", "x\ny")):
                edits = edits_of(patch)
                for place in PLACES:
                    new = led_by_all(edits[::-1], place, "forward")
                    self.assertEqual(new, patch.forward(*place))
                    self.assertEqual(led_by_all(edits, place, "back"), patch.back(*place))
                    if new is not None:
                        self.assertEqual(place, patch.back(*new))

    def test_virtual_edits(self):
        patch = Patch(Edit((0, 5), (2, 7), "x\ny"), Edit((2, 9), (9, 9), ""), Edit((FAR, 1), (FAR, 1), "z"))
        edits = edits_of(patch)
        for place in PLACES + [(FAR - 8, 1), (FAR, 2), (9, 9), (9, 10), (10, 1)]:
            self.assertEqual(led_by_all(edits[::-1], place, "forward"), patch.forward(*place))
            self.assertEqual(led_by_all(edits, place, "back"), patch.back(*place))

    def test_items_length_and_each(self):
        edits = [Edit((0, k), (0, k + 1), "x") for k in range(0, 9, 2)]
        patch = Patch(*edits)
        self.assertEqual(5, len(patch))
        self.assertEqual(0, len(Patch()))
        self.assertEqual(edits, [patch[k] for k in range(5)])
        self.assertEqual(edits, list(patch.each()))
        self.assertEqual([], list(Patch().each()))
        for value in NO_NUMBERS + (5, FAR, slice(0, 1)):
            fails(self, BadNumber, "given", value, patch.__getitem__, value)
        fails(self, BadNumber, "given", 0, Patch().__getitem__, 0)
        with self.assertRaises(TypeError):
            list(patch)

    def test_first_edit_that_is_none_idle_or_not_apart(self):
        one, two, idle = Edit((0, 1), (0, 2), "x"), Edit((0, 4), (0, 5), ""), Edit((0, 3), (0, 3), "")
        self.assertEqual(2, len(Patch(one, two)))
        for value in (None, True, 0, "x", ((0, 1), (0, 2), "x"), [one], Patch(one)):
            fails(self, BadEdit, "index", 0, Patch, value, one, idle)
            fails(self, BadEdit, "index", 2, Patch, one, two, value)
        fails(self, BadEdit, "index", 1, Patch, one, idle, two, one)
        fails(self, BadEdit, "index", 1, Patch, two, one)
        fails(self, BadEdit, "index", 1, Patch, one, one)
        fails(self, BadEdit, "index", 1, Patch, one, Edit((0, 2), (0, 3), "y"))
        fails(self, BadEdit, "index", 1, Patch, one, Edit((0, 2), (0, 2), "y"))
        fails(self, BadEdit, "index", 2, Patch, one, two, Edit((0, 5), (7, 0), ""), None)
        self.assertEqual(2, len(Patch(one, Edit((0, 3), (0, 3), "y"))))

    def test_what_has_no_place(self):
        patch = Patch(Edit((0, 1), (0, 2), "x"), Edit((0, 4), (0, 9), "y"), Edit((3, 0), (4, 0), "z"))
        for call in (patch, patch.opposite):
            fails(self, NoPlace, "given", (0, 1), call, "")
            fails(self, NoPlace, "given", (0, 2), call, "a")
            fails(self, NoPlace, "given", (0, 4), call, "abc")
            fails(self, NoPlace, "given", (0, 9), call, "abcdefgh")
            fails(self, NoPlace, "given", (3, 0), call, "abcdefghi")
            fails(self, NoPlace, "given", (4, 0), call, "abcdefghi\n\n\n")
            for value in NO_TEXTS:
                fails(self, BadText, "place_index", None, call, value)
        for value in NO_TEXTS:
            fails(self, BadText, "place_index", None, Patch(), value)
            fails(self, BadText, "place_index", None, Patch().opposite, value)

    def test_no_numbers(self):
        for patch in (Patch(), Patch(Edit((0, 1), (0, 2), "x"))):
            for value in NO_NUMBERS:
                for call in (patch.forward, patch.back):
                    fails(self, BadNumber, "given", value, call, value, -7)
                    fails(self, BadNumber, "given", value, call, 0, value)

    def test_equality(self):
        one, two = Edit((0, 1), (0, 2), "x"), Edit((0, 4), (0, 5), "")
        self.assertTrue(Patch(one, two) == Patch(Edit((0, 1), (0, 2), "x"), two))
        for other in (Patch(), Patch(one), Patch(two), Patch(one, Edit((0, 4), (0, 5), "y"))):
            self.assertTrue(Patch(one, two) != other)
        for other in NO_PATCHES + ((one, two), [one, two]):
            self.assertFalse(Patch(one, two) == other)

    def test_calls_by_name(self):
        patch = Patch(Edit((0, 1), (0, 2), "xy"))
        other = Patch(Edit((0, 3), (0, 3), "z"))
        self.assertEqual("axyc", patch(text="abc"))
        self.assertEqual("abc", patch.opposite(text="abc")("axyc"))
        self.assertEqual((0, 4), patch.forward(column=3, line=0))
        self.assertEqual((0, 3), patch.back(column=4, line=0))
        self.assertEqual(2, len(patch.merged(other=other)))
        self.assertEqual(Patch(Edit((0, 4), (0, 4), "z")), patch.led(other=other))
        self.assertEqual("b", Patch.of_lines(new="b", old="a")("a"))


class InTurnTest(unittest.TestCase):
    def check_in_turn(self, text, edits, patch):
        new = text
        for edit in edits:
            new = edit(new)
        self.assertEqual(new, patch(text))
        for place in PLACES:
            self.assertEqual(led_by_all(edits, place, "forward"), patch.forward(*place))
            self.assertEqual(led_by_all(edits[::-1], place, "back"), patch.back(*place))

    def test_two_edits_of_small_texts(self):
        for text in small_texts(2, "a\n"):
            for one in all_edits(text, ("", "x", "x\ny")):
                for other in all_edits(one(text), ("", "z", "\n")):
                    patch = Patch.in_turn(one, other)
                    self.check_in_turn(text, [one, other], patch)
                    self.assertEqual(patch_by_signs(text, [one, other]), patch)

    def test_many_edits(self):
        chance = random.Random(7)
        for _ in range(400):
            text = "".join(chance.choice("abc\n") for _ in range(chance.randrange(12)))
            edits, now = [], text
            for _ in range(chance.randrange(7)):
                edits.append(any_edit(chance, now, 5))
                now = edits[-1](now)
            patch = Patch.in_turn(*edits)
            self.check_in_turn(text, edits, patch)
            self.assertEqual(patch_by_signs(text, edits), patch)

    def test_virtual_edits_in_turn(self):
        places = grid(3, 4)
        first = Edit((0, 1), (1, 1), "x\nyz")
        for low in places:
            for high in places:
                if low <= high:
                    edit = Edit(low, high, "v\n")
                    fresh = [place for place in (low, high) if first.low <= place < first.new_high]
                    if [place for place in fresh if place not in ((0, 1), (0, 2), (1, 0), (1, 1), (1, 2))]:
                        fails(self, BadEdit, "index", 1, Patch.in_turn, first, edit, None)
                    else:
                        patch = Patch.in_turn(first, edit)
                        for place in PLACES:
                            self.assertEqual(led_by_all([first, edit], place, "forward"), patch.forward(*place))
                            self.assertEqual(led_by_all([edit, first], place, "back"), patch.back(*place))

    def test_touching(self):
        first = Edit((0, 2), (0, 4), "xyz")
        for edit, expected in (
            (Edit((0, 0), (0, 1), "v"), [Edit((0, 0), (0, 1), "v"), first]),
            (Edit((0, 0), (0, 2), "v"), [Edit((0, 0), (0, 4), "vxyz")]),
            (Edit((0, 1), (0, 3), "v"), [Edit((0, 1), (0, 4), "vyz")]),
            (Edit((0, 2), (0, 2), "v"), [Edit((0, 2), (0, 4), "vxyz")]),
            (Edit((0, 3), (0, 4), "v"), [Edit((0, 2), (0, 4), "xvz")]),
            (Edit((0, 4), (0, 7), "v"), [Edit((0, 2), (0, 6), "xyv")]),
            (Edit((0, 5), (0, 5), "v"), [Edit((0, 2), (0, 4), "xyzv")]),
            (Edit((0, 6), (0, 6), "v"), [first, Edit((0, 5), (0, 5), "v")]),
        ):
            self.assertEqual(Patch(*expected), Patch.in_turn(first, edit))

    def test_idle_edits_disappear(self):
        idle = Edit((0, 3), (0, 3), "")
        self.assertEqual(Patch(), Patch.in_turn())
        self.assertEqual(Patch(), Patch.in_turn(idle, idle))
        self.assertEqual(Patch(), Patch.in_turn(Edit((0, 1), (0, 1), "ab"), Edit((0, 1), (0, 3), "")))
        one = Edit((0, 1), (0, 2), "abc")
        self.assertEqual(Patch(one), Patch.in_turn(idle, one, idle, Edit((0, 1), (0, 1), ""), Edit((9, 9), (9, 9), "")))

    def test_index_of_what_is_refused(self):
        one = Edit((0, 1), (0, 1), "a\nb")
        wrong = Edit((0, 0), (0, 3), "")
        self.assertEqual(1, len(Patch.in_turn(one, Edit((0, 0), (0, 2), ""))))
        fails(self, BadEdit, "index", 1, Patch.in_turn, one, wrong)
        fails(self, BadEdit, "index", 1, Patch.in_turn, one, Edit((0, 3), (0, 3), ""))
        fails(self, BadEdit, "index", 2, Patch.in_turn, Edit((5, 0), (5, 0), "x"), one, wrong, None)
        for value in (None, True, 1, "a", [one], (one,), Patch(one)):
            fails(self, BadEdit, "index", 0, Patch.in_turn, value, one)
            fails(self, BadEdit, "index", 2, Patch.in_turn, one, one, value, wrong)


class SumTest(unittest.TestCase):
    def test_sums_of_all_small_patches(self):
        for text in small_texts(2, "a\n") + ["a\na"]:
            for one in all_patches(text, 2, ("", "x\n")):
                middle = one(text)
                for other in all_patches(middle, 2, ("", "z")):
                    both = one + other
                    self.assertEqual(other(middle), both(text))
                    self.assertEqual(Patch.in_turn(*edits_of(one)[::-1], *edits_of(other)[::-1]), both)

    def test_ways_and_associativity(self):
        chance = random.Random(3)
        for _ in range(300):
            text = "".join(chance.choice("abc\n") for _ in range(chance.randrange(15)))
            one = any_patch(chance, text)
            two = any_patch(chance, one(text))
            three = any_patch(chance, two(one(text)))
            both = one + two
            self.assertEqual((one + two) + three, one + (two + three))
            self.assertEqual(one, one + Patch())
            self.assertEqual(one, Patch() + one)
            self.assertEqual(text, (one + one.opposite(text))(text))
            for place in PLACES:
                self.assertEqual(led_by_all([one, two], place, "forward"), both.forward(*place))
                self.assertEqual(led_by_all([two, one], place, "back"), both.back(*place))

    def test_sums_of_virtual_patches(self):
        chance = random.Random(5)
        places = grid(4, 6)
        many = 0
        for _ in range(3000):
            lows = sorted(chance.sample(places, 4))
            one = Patch(Edit(lows[0], lows[1], "x\nyz"), Edit(lows[2], lows[3], chance.choice(("", "v"))))
            lows = sorted(chance.sample(places, 4))
            two = Patch(Edit(lows[0], lows[1], ""), Edit(lows[2], lows[3], "w\n"))
            try:
                both = one + two
            except NoPlace as error:
                self.assertEqual(first_refused(one, two), error.given)
                continue
            self.assertIsNone(first_refused(one, two))
            many += 1
            for place in PLACES:
                self.assertEqual(led_by_all([one, two], place, "forward"), both.forward(*place))
                self.assertEqual(led_by_all([two, one], place, "back"), both.back(*place))
        self.assertGreater(many, 100)

    def test_what_is_refused_first(self):
        one = Patch(Edit((0, 1), (0, 1), "a\nb"), Edit((1, 0), (1, 0), "c\nd"))
        early, late = Edit((0, 3), (0, 4), ""), Edit((2, 5), (2, 6), "")
        right = Edit((2, 0), (2, 1), "")
        fails(self, NoPlace, "given", (0, 3), one.__add__, Patch(early))
        fails(self, NoPlace, "given", (0, 4), one.__add__, Patch(Edit((0, 2), (0, 4), "")))
        fails(self, NoPlace, "given", (2, 5), one.__add__, Patch(early, late))
        fails(self, NoPlace, "given", (2, 6), one.__add__, Patch(early, Edit((2, 0), (2, 6), "")))
        fails(self, NoPlace, "given", (0, 3), one.__add__, Patch(early, right))
        self.assertEqual(2, len(one + Patch(Edit((0, 2), (0, 2), "x"), right)))

    def test_other_values(self):
        for value in NO_PATCHES:
            with self.assertRaises(BadEdit) as held:
                Patch() + value
            self.assertIsNone(held.exception.index)

    def test_many_edits(self):
        text = "ab" * 3000
        one = Patch(*[Edit((0, k), (0, k + 1), "xyz") for k in range(0, 6000, 2)])
        other = Patch(*[Edit((0, k), (0, k + 2), "") for k in range(0, 12000, 4)])
        self.assertEqual("zb" * 3000, (one + other)(text))
        self.assertEqual(Patch(*[Edit((0, k), (0, k + 1), "z") for k in range(0, 6000, 2)]), one + other)


def first_refused(one, two):
    """The first place that is fresh, but virtual in what is put in there, from the last edit on."""
    for edit in reversed(edits_of(two)):
        for place in (edit.low, edit.high):
            for k, inner in enumerate(edits_of(one)):
                begin = led_by_all(edits_of(one)[:k][::-1], inner.low, "forward")
                end = led_by_all(edits_of(one)[:k][::-1], inner.new_high, "forward")
                spot = (place[0] - begin[0], place[1] - (begin[1] if place[0] == begin[0] else 0))
                if begin <= place < end and not has_place(inner.fresh, *spot):
                    return place
    return None


class MergedTest(unittest.TestCase):
    def test_all_pairs_of_small_patches(self):
        for text in ("a\nb", "abc", ""):
            patches = all_patches(text, 2, ("", "x\n"))
            for one in patches:
                for other in patches:
                    lows = [
                        edit.low for edit in one.each()
                        if any(edit.high >= row.low and row.high >= edit.low for row in other.each())
                    ]
                    if lows:
                        fails(self, Clash, "given", lows[0], one.merged, other)
                        fails(self, Clash, "given", lows[0], one.led, other)
                    else:
                        merged = one.merged(other)
                        both = sorted(edits_of(one) + edits_of(other), key=lambda edit: edit.low)
                        self.assertEqual(Patch(*both), merged)
                        self.assertEqual(merged, one + one.led(other))
                        self.assertEqual(merged, other + other.led(one))

    def test_virtual_patches(self):
        one = Patch(Edit((0, 9), (1, 9), "x"), Edit((4, 0), (5, 0), "a\nb\nc"))
        other = Patch(Edit((0, 2), (0, 4), "y\n"), Edit((1, 12), (1, 13), "z"), Edit((7, 7), (8, 0), ""))
        merged = one.merged(other)
        self.assertEqual(5, len(merged))
        self.assertEqual(merged, one + one.led(other))
        self.assertEqual(merged, other + other.led(one))
        self.assertEqual((0, 13), one.led(other)[1].low)

    def test_first_low_here(self):
        one = Patch(Edit((0, 1), (0, 2), ""), Edit((0, 5), (0, 6), ""), Edit((0, 8), (0, 9), ""))
        other = Patch(Edit((0, 7), (0, 8), ""), Edit((0, 10), (0, 11), ""))
        fails(self, Clash, "given", (0, 8), one.merged, other)
        fails(self, Clash, "given", (0, 7), other.led, one)
        fails(self, Clash, "given", (0, 5), one.led, Patch(Edit((0, 6), (0, 20), "")))

    def test_other_values(self):
        for value in NO_PATCHES:
            for patch in (Patch(), Patch(Edit((0, 0), (0, 1), ""))):
                fails(self, BadEdit, "index", None, patch.merged, value)
                fails(self, BadEdit, "index", None, patch.led, value)


def rows_of(text):
    return [row for row in text.replace("\n", "\n\0").split("\0") if row]


def most_kept(old, new):
    """The greatest number of rows that can be kept, by trying all choices."""
    for many in range(min(len(old), len(new)), 0, -1):
        choices = {row for row in combinations(new, many)}
        if any(row in choices for row in combinations(old, many)):
            return many
    return 0


class LinePatchTest(unittest.TestCase):
    def test_all_pairs_of_small_texts(self):
        texts = [text for text in small_texts(5) if text.count("\n") > 1 or len(text) < 4]
        for old in texts[::2]:
            for new in texts[::3]:
                patch = Patch.of_lines(old, new)
                self.assertEqual(new, patch(old))
                gone = 0
                for edit in patch.each():
                    self.assertEqual(0, edit.low[1] if edit.low != end_of(old) else 0)
                    self.assertEqual(0, edit.high[1] if edit.high != end_of(old) else 0)
                    gone += len(rows_of(old)[edit.low[0]:edit.high[0] + (edit.high[1] > 0)])
                self.assertEqual(most_kept(rows_of(old), rows_of(new)), len(rows_of(old)) - gone)

    def test_last_rows(self):
        self.assertEqual(Patch(), Patch.of_lines("a\nb", "a\nb"))
        self.assertEqual(Patch(Edit((1, 0), (1, 0), "b")), Patch.of_lines("a\n", "a\nb"))
        self.assertEqual(Patch(Edit((1, 0), (1, 1), "")), Patch.of_lines("a\nb", "a\n"))
        self.assertEqual(Patch(Edit((0, 0), (0, 1), "a\nb")), Patch.of_lines("a", "a\nb"))
        self.assertEqual(Patch(Edit((0, 0), (0, 0), "\n")), Patch.of_lines("", "\n"))

    def test_limit(self):
        rows = [f"{k}\n" for k in range(301)]
        most, more = "".join(rows[:300]), "".join(rows)
        self.assertEqual(Patch(), Patch.of_lines(most, most))
        self.assertEqual(most, Patch.of_lines("", most)(""))
        self.assertEqual("x", Patch.of_lines(most, "x")(most))
        for old, new in ((more, ""), ("", more), (more, more), (most + "x", "a"), ("a", most + "x")):
            fails(self, TooLarge, "limit", 300, Patch.of_lines, old, new)

    def test_no_texts(self):
        more = "\n" * 400
        for value in NO_TEXTS:
            fails(self, BadText, "place_index", None, Patch.of_lines, value, more)
            fails(self, BadText, "place_index", None, Patch.of_lines, more, value)


if __name__ == "__main__":
    unittest.main()
