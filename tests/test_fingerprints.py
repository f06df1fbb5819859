"""mapstack.fingerprints: points [55] and [56]."""

import random
import unittest

from mapstack.edits import Edit
from mapstack.errors import BadMap, BadName, BadNumber, BadText, NoText, Stale
from mapstack.fingerprints import Dated, Fingerprint, checksum
from mapstack.led import edited, led
from mapstack.maps import ClosedMap, Map
from tests.support import NO_INTEGERS, NO_NAMES, NO_TEXTS, fails, small_texts

NO_MAPS = (True, False, None, 0, -1, "s", b"", (), ("run", 0, 0, "s", 0, 0), [], {}, {"s": Map()}, object())
OWN = Map(("run", 0, 0, "s", 0, 0), ("point", 1, 0, "t", 0, 2, "w"), ("run", 2, 0, "u", 0, 0))


def checksum_by_words(signs):
    """The words of [55], sign by sign."""
    total = 0
    for number, sign in enumerate(signs, start=1):
        total += number * ord(sign)
        while total >= 99999989:
            total -= 99999989
    return total


def stale_by_words(text, other):
    """The first line, from 0, that differs in its numbers, or that only one of both texts has."""
    one = [(len(line), checksum_by_words(line)) for line in text.split("\n")]
    two = [(len(line), checksum_by_words(line)) for line in other.split("\n")]
    for line in range(max(len(one), len(two))):
        if one[line:line + 1] != two[line:line + 1]:
            return line
    return None


class ChecksumTest(unittest.TestCase):
    def test_sign_by_sign(self):
        chance = random.Random(551)
        for many in (0, 1, 2, 3, 40, 1000):
            signs = "".join(chr(chance.randrange(32, 127)) for _ in range(many))
            self.assertEqual(checksum_by_words(signs), checksum(signs))

    def test_plain_numbers(self):
        self.assertEqual([0, 97, 97 + 2 * 98, 98 + 2 * 97, 32], [checksum(row) for row in ("", "a", "ab", "ba", " ")])

    def test_modulo(self):
        signs = "~" * 2000
        self.assertEqual(126 * (2000 * 2001 // 2) % 99999989, checksum(signs))
        self.assertLess(checksum(signs), 99999989)
        longest = "~" * 20000
        self.assertEqual(126 * (20000 * 20001 // 2) % 99999989, checksum(longest))
        # 126 times the sum of 1 to 1259 is 99,939,420, and 60,569 more is the modulus itself.
        codes = [126] * 1259 + [49]
        self.assertEqual(60569 + 1171, 49 * 1260)
        codes[1170] = 125
        self.assertEqual(0, checksum("".join(chr(code) for code in codes)))

    def test_wrong_values(self):
        for value in NO_TEXTS:
            fails(self, BadText, "place_index", None, checksum, value)
        for value in ("\n", "ab\n", "a\nb", "\nb"):
            fails(self, BadText, "place_index", None, checksum, value)
        self.assertEqual(97, checksum(signs="a"))


class FingerprintTest(unittest.TestCase):
    def test_numbers_of_each_line(self):
        for text in small_texts(5) + ["ab\n\n  cd\nx", "\n\n\n"]:
            made = Fingerprint(text)
            lines = text.split("\n")
            self.assertEqual(tuple(len(line) for line in lines), made.lengths)
            self.assertEqual(tuple(checksum_by_words(line) for line in lines), made.checksums)
            self.assertEqual(len(lines), len(made))
            for line in range(len(lines)):
                self.assertEqual((made.lengths[line], made.checksums[line]), made[line])

    def test_first_stale_of_all_small_texts(self):
        texts = small_texts(4)
        for text in texts:
            made = Fingerprint(text)
            for other in texts:
                self.assertEqual(stale_by_words(text, other), made.first_stale(other), (text, other))

    def test_kinds_of_changes(self):
        text = "first\nsecond\nthird"
        made = Fingerprint(text)
        for other, line in (
            (text, None), ("first\nsecord\nthird", 1), ("frist\nsecond\nthird", 0), ("first\nsecond\nthird\n", 3),
            ("first\nsecond", 2), ("first\nsecond\n", 2), ("", 0), ("first\nsecond\nthird ", 2), ("\n" + text, 0),
            ("first\nsecond\nthird\nfourth", 3),
        ):
            self.assertEqual(line, made.first_stale(other))

    def test_equal_numbers_are_fresh(self):
        # 2 * 98 + 1 * 98 is 1 * 100 + 2 * 97, so these two have the same length and checksum.
        self.assertEqual(checksum("bb"), checksum("da"))
        self.assertIsNone(Fingerprint("x\nbb").first_stale("x\nda"))
        self.assertTrue(Fingerprint("x\nbb") == Fingerprint("x\nda"))
        # 33 + 2 * 32 is 97, so these differ in their lengths alone.
        self.assertEqual(checksum("a"), checksum("! "))
        self.assertEqual(1, Fingerprint("x\na").first_stale("x\n! "))
        self.assertFalse(Fingerprint("a") == Fingerprint("! "))

    def test_equal(self):
        texts = small_texts(3)
        for text in texts:
            for other in texts:
                same = stale_by_words(text, other) is None
                self.assertEqual(same, Fingerprint(text) == Fingerprint(other))
                self.assertEqual(not same, Fingerprint(text) != Fingerprint(other))
        for value in (None, 0, "", (), ((0, 0),), [], {}, Map()):
            self.assertFalse(Fingerprint("") == value)

    def test_wrong_values(self):
        made = Fingerprint("ab\nc")
        for value in NO_TEXTS:
            fails(self, BadText, "place_index", None, Fingerprint, value)
            fails(self, BadText, "place_index", None, made.first_stale, value)
        for value in NO_INTEGERS + (-1, 2, 10 ** 99, slice(0, 1)):
            fails(self, BadNumber, "given", value, lambda: made[value])

    def test_is_not_iterated_over(self):
        with self.assertRaises(TypeError):
            iter(Fingerprint("a"))

    def test_by_name(self):
        self.assertEqual(1, Fingerprint(text="a\nb").first_stale(text="a\nc"))


class DatedTest(unittest.TestCase):
    def setUp(self):
        self.texts = {"t": "T0\nT1", "s": "S0\nS1\nS2", "u": ""}
        self.made = Dated(OWN, "g0\ng1\ng2", self.texts)

    def test_stale_in_order(self):
        made = self.made
        self.assertEqual((), made.stale("g0\ng1\ng2", self.texts))
        self.assertEqual((("", 1),), made.stale("g0\nxx\ng2", self.texts))
        self.assertEqual(
            (("", 3), ("s", 2), ("t", 0), ("u", 1)),
            made.stale("g0\ng1\ng2\n", {"u": "\n", "t": "", "s": "S0\nS1"}),
        )
        self.assertEqual((("t", 1),), made.stale("g0\ng1\ng2", {"t": "T0\nT2", "new": "any"}))
        self.assertEqual((), made.stale("g0\ng1\ng2", {}))
        self.assertEqual((("", 0),), made.stale("", {"new": ""}))

    def test_sources_need_not_be_those_of_the_map(self):
        made = Dated(OWN, "g", {"other": "text", "Other": "x", "-": "", "0": "1"})
        self.assertEqual((("-", 0), ("0", 0), ("Other", 0), ("other", 0)),
                         made.stale("g", {"other": "", "0": "", "-": "x", "Other": "y", "s": "z"}))

    def test_own_map(self):
        self.assertEqual(OWN, self.made.own_map())
        shut = ClosedMap((3, 1), (("run", 0, 0, "s", 0, 0),))
        made = Dated(shut, "abc\nd", {"s": "abc"})
        self.assertEqual(shut, made.own_map())
        self.assertIs(Map, type(made.own_map()))
        self.assertIs(Map, type(made.renewed("", "abc\nd", "abc\nd").own_map()))

    def test_renewed_generated_text(self):
        new = "g0\nnew\ng1\ng2"
        made = self.made.renewed("", "g0\ng1\ng2", new)
        self.assertEqual(edited(OWN, Edit.between("g0\ng1\ng2", new)), made.own_map())
        self.assertEqual((), made.stale(new, self.texts))
        self.assertEqual((("", 1),), made.stale("g0\ng1\ng2", self.texts))

    def test_renewed_source(self):
        new = "S0\nS1 and more\nS2"
        made = self.made.renewed("s", "S0\nS1\nS2", new)
        self.assertEqual(led(OWN, "s", Edit.between("S0\nS1\nS2", new)), made.own_map())
        self.assertEqual((), made.stale("g0\ng1\ng2", {"s": new, "t": "T0\nT1", "u": ""}))
        self.assertEqual((("s", 1),), made.stale("g0\ng1\ng2", self.texts))

    def test_renewed_by_all_changes_of_small_texts(self):
        own = Map(("run", 0, 0, "s", 0, 0), ("run", 0, 2, "s", 1, 0), ("point", 1, 0, "s", 0, 1))
        texts = small_texts(3)
        for old in texts:
            made = Dated(own, old, {"s": old, "t": old})
            for new in texts:
                change = Edit.between(old, new)
                self.assertEqual(edited(own, change), made.renewed("", old, new).own_map())
                again = made.renewed("s", old, new)
                self.assertEqual(led(own, "s", change), again.own_map())
                self.assertEqual((), again.stale(old, {"s": new, "t": old}))

    def test_several_renewals(self):
        made = self.made.renewed("s", "S0\nS1\nS2", "S1\nS2").renewed("s", "S1\nS2", "S1\n").renewed("u", "", "u")
        self.assertEqual((), made.stale("g0\ng1\ng2", {"s": "S1\n", "t": "T0\nT1", "u": "u"}))
        fails(self, Stale, "spot", 1, made.renewed, "s", "S1\nS2", "")

    def test_old_one_stays(self):
        before = self.made.own_map()
        self.made.renewed("", "g0\ng1\ng2", "other"), self.made.renewed("s", "S0\nS1\nS2", "")
        self.assertIs(before, self.made.own_map())
        self.assertEqual((), self.made.stale("g0\ng1\ng2", self.texts))

    def test_caller_changes_the_dicts(self):
        texts = {"s": "S"}
        made = Dated(OWN, "g", texts)
        texts["s"] = "other"
        texts["t"] = "T"
        self.assertEqual((), made.stale("g", {"s": "S", "t": "any"}))
        self.assertEqual((("s", 0),), made.stale("g", texts))
        fails(self, NoText, "given", "t", made.renewed, "t", "T", "T")
        self.assertEqual({"s": "other", "t": "T"}, texts)

    def test_wrong_values(self):
        made = self.made
        for value in NO_MAPS:
            fails(self, BadMap, "given", value, Dated, value, "", {})
        for value in NO_TEXTS:
            fails(self, BadText, "place_index", None, Dated, OWN, value, {})
            fails(self, BadText, "place_index", None, made.stale, value, {})
            fails(self, BadText, "place_index", None, made.renewed, "s", value, "")
            fails(self, BadText, "place_index", None, made.renewed, "", "g0\ng1\ng2", value)
        wrong = [value for value in NO_NAMES if value != {}] + [OWN, ["s"], ("s", "t"), {1: "a"}, {"": "a"}, {"s": None}]
        wrong += [{"s": "", "t": 0}, {"a b": ""}, {"s": b""}, {"s": "", None: ""}, {"s": ("a",)}]
        for value in wrong:
            fails(self, BadName, "given", value, Dated, OWN, "", value)
            fails(self, BadName, "given", value, made.stale, "", value)
        for value in [value for value in NO_NAMES if value != ""] + ["x", "S"]:
            fails(self, NoText, "given", value, made.renewed, value, "", "")

    def test_several_at_once(self):
        made = self.made
        fails(self, BadMap, "given", None, Dated, None, None, None)
        fails(self, BadText, "place_index", None, Dated, OWN, None, None)
        fails(self, BadText, "place_index", None, made.stale, None, None)
        fails(self, NoText, "given", "x", made.renewed, "x", None, None)
        fails(self, BadText, "place_index", None, made.renewed, "s", "other", None)
        fails(self, BadText, "place_index", None, made.renewed, "s", None, None)
        fails(self, Stale, "spot", 0, made.renewed, "s", "other", "S0\nS1\nS2")
        fails(self, Stale, "spot", 3, made.renewed, "s", "S0\nS1\nS2\n", "S0\nS1\nS2")
        fails(self, Stale, "spot", 2, made.renewed, "", "g0\ng1", "")

    def test_by_name(self):
        made = Dated(texts={"s": "S"}, text="g", map_here=OWN)
        self.assertEqual((("", 0),), made.stale(texts={"s": "S"}, text="h"))
        self.assertEqual((), made.renewed(new="h", old="g", name="").stale("h", {"s": "S"}))


if __name__ == "__main__":
    unittest.main()
