"""mapstack.codes: points [18] to [20]."""

import random
import unittest

from mapstack.codes import Alphabet, folded, unfolded
from mapstack.errors import BadAlphabet, BadNumber, BadText
from tests.support import NO_INTEGERS, NO_NUMBERS, NO_TEXTS, fails

MOST = 10 ** 12
FAR = 10 ** 9
STANDARD = Alphabet.standard()
EVERY = [chr(code) for code in range(32, 127) if chr(code) not in "%,;>.'"]
OTHERS = [Alphabet("".join(EVERY[:64])), Alphabet("".join(EVERY[-64:])), Alphabet("".join(EVERY[::-1][:64]))]
SOME = sorted(
    set(range(3000)) | {32 ** k + by for k in range(1, 8) for by in (-1, 0, 1, 31)} | {FAR, 2 * FAR, MOST - 1, MOST}
)
NO_ALPHABETS = (True, False, None, 0, "", Alphabet.STANDARD, b"", [], (), {}, object())


def slow_code(signs, number):
    digits = [number % 32]
    while number >= 32:
        number //= 32
        digits.append(number % 32 + 32)
    return "".join(signs[digit] for digit in reversed(digits))


class FoldedTest(unittest.TestCase):
    def test_there_and_back(self):
        expected = {0: 0, -1: 1, 1: 2, -2: 3, 2: 4, FAR: 2 * FAR, -FAR: 2 * FAR - 1}
        for number, other in expected.items():
            self.assertEqual(other, folded(number))
            self.assertEqual(number, unfolded(other))
        for number in range(-500, 500):
            self.assertEqual(number, unfolded(folded(number)))
        self.assertEqual(list(range(1000)), sorted(folded(number) for number in range(-500, 500)))

    def test_limits_and_other_kinds(self):
        for value in NO_INTEGERS + (FAR + 1, -FAR - 1, 10 ** 99, -10 ** 99):
            fails(self, BadNumber, "given", value, folded, value)
        for value in NO_NUMBERS + (2 * FAR + 1,):
            fails(self, BadNumber, "given", value, unfolded, value)

    def test_calls_by_name(self):
        self.assertEqual((2, 1), (folded(number=1), unfolded(number=2)))


class AlphabetTest(unittest.TestCase):
    def test_signs(self):
        signs = "ABCDEFGHIJKLMNOPQRSTUVWXYZabcdefghijklmnopqrstuvwxyz0123456789+/"
        self.assertEqual((signs, ",;>.'"), (Alphabet.STANDARD, Alphabet.MARKS))
        self.assertEqual(Alphabet(signs), STANDARD)
        self.assertEqual(64, len(STANDARD))
        self.assertEqual(list(signs), [STANDARD[index] for index in range(64)])
        for sign in signs:
            self.assertIs(True, sign in STANDARD)
        for value in NO_ALPHABETS + NO_TEXTS + ("AB", "-", "\n", "_", ",", "'", "%", 65):
            self.assertIs(False, value in STANDARD)
        for value in NO_NUMBERS + (64, 10 ** 50):
            fails(self, BadNumber, "given", value, STANDARD.__getitem__, value)
        with self.assertRaises(TypeError):
            list(STANDARD)

    def test_wrong_signs(self):
        right = Alphabet.STANDARD
        for value in NO_TEXTS + ("", right[:63], right + "-", right + "A", right[:63] + "A", list(right), tuple(right)):
            fails(self, BadAlphabet, "given", value, Alphabet, value)
        for sign in ",;>.'%\n\t\x1f\x7f\u00e9":
            for value in (right[:63] + sign, sign + right[1:]):
                fails(self, BadAlphabet, "given", value, Alphabet, value)
        for sign in " -~!":
            self.assertIn(sign, Alphabet(right[:63] + sign))

    def test_equality(self):
        self.assertTrue(Alphabet(Alphabet.STANDARD) == STANDARD)
        for other in OTHERS + list(NO_ALPHABETS) + [Alphabet(Alphabet.STANDARD[::-1])]:
            self.assertFalse(STANDARD == other)
            self.assertTrue(STANDARD != other)

    def test_codes_there_and_back(self):
        self.assertEqual(("A", "f", "hA", "hB"), tuple(STANDARD(number) for number in (0, 31, 32, 33)))
        for alphabet in [STANDARD] + OTHERS:
            for number in SOME:
                code = slow_code([alphabet[index] for index in range(64)], number)
                self.assertEqual(code, alphabet(number))
                self.assertEqual([number], list(alphabet.numbers_in(code)))
            text = alphabet.codes(*SOME)
            self.assertEqual("".join(alphabet(number) for number in SOME), text)
            self.assertEqual(SOME, list(alphabet.numbers_in(text)))
        self.assertEqual("", STANDARD.codes())

    def test_no_code_begins_another_one(self):
        codes = sorted(STANDARD(number) for number in SOME)
        self.assertEqual(len(SOME), len(set(codes)))
        for one, other in zip(codes, codes[1:]):
            self.assertFalse(other.startswith(one))

    def test_signed_codes(self):
        for number in list(range(-2000, 2000)) + [FAR, -FAR, FAR - 1, 1 - FAR]:
            self.assertEqual(STANDARD(folded(number)), STANDARD.signed(number))
        numbers = [0, -1, 1, -FAR, FAR, 17, -16]
        text = "".join(STANDARD.signed(number) for number in numbers)
        self.assertEqual(numbers, list(STANDARD.signed_in(text)))

    def test_limits_and_other_kinds(self):
        for value in NO_NUMBERS + (MOST + 1,):
            fails(self, BadNumber, "given", value, STANDARD, value)
            fails(self, BadNumber, "given", value, STANDARD.codes, 0, MOST, value, -9)
        for value in NO_INTEGERS + (FAR + 1, -FAR - 1):
            fails(self, BadNumber, "given", value, STANDARD.signed, value)

    def test_calls_by_name(self):
        self.assertEqual("BC", Alphabet(signs=Alphabet.STANDARD)(number=1) + STANDARD.signed(number=1))
        self.assertEqual([1], list(STANDARD.numbers_in(text="B")))
        self.assertEqual([-1], list(STANDARD.signed_in(text="B")))
        self.assertEqual("B", STANDARD.translated(other=STANDARD, text="B"))


class WrongTextTest(unittest.TestCase):
    def check_wrong(self, call, text, numbers, wrong):
        found = []
        with self.assertRaises(BadText) as held:
            for number in call(text):
                found.append(number)
        self.assertEqual((numbers, wrong), (found, held.exception.place_index))

    def test_no_texts(self):
        for value in NO_TEXTS:
            for call in (STANDARD.numbers_in, STANDARD.signed_in):
                fails(self, BadText, "place_index", None, next, call(value))

    def test_incomplete_codes(self):
        for number in SOME[32:]:
            code = STANDARD(number)
            for length in range(1, len(code)):
                self.check_wrong(STANDARD.numbers_in, "BC" + code[:length], [1, 2], 2 + length)
        self.check_wrong(STANDARD.signed_in, "Ch", [1], 2)

    def test_other_characters_and_needless_digits(self):
        for sign in ",;>.'%-_ \n\u00e9":
            for text, numbers, wrong in ((sign, [], 0), ("B" + sign + "C", [1], 1), ("Bh" + sign, [1], 2)):
                self.check_wrong(STANDARD.numbers_in, text, numbers, wrong)
        self.check_wrong(STANDARD.numbers_in, "gB", [], 0)
        self.check_wrong(STANDARD.numbers_in, "BgA", [1], 1)
        self.assertEqual([1024], list(STANDARD.numbers_in("hgA")))

    def test_first_wrong_index_of_too_great_numbers(self):
        """A beginning stands if the least code that continues it is not too great."""
        for call, most in ((STANDARD.numbers_in, MOST), (STANDARD.signed_in, 2 * FAR)):
            chance = random.Random(13)
            for _ in range(3000):
                number = chance.choice((chance.randrange(4 * most), most + chance.randrange(-40, 40)))
                number >>= chance.choice((0, 0, 0, 5, 11))
                text = slow_code(Alphabet.STANDARD, number)
                if number <= most:
                    self.assertEqual(1, len(list(call(text))))
                else:
                    right = [length for length in range(len(text)) if 32 * value_of(text[:length]) <= most]
                    self.check_wrong(call, text, [], max(right))

    def test_edges(self):
        self.check_wrong(STANDARD.numbers_in, slow_code(Alphabet.STANDARD, MOST + 1), [], 7)
        self.check_wrong(STANDARD.numbers_in, slow_code(Alphabet.STANDARD, 32 * MOST), [], 7)
        self.check_wrong(STANDARD.signed_in, slow_code(Alphabet.STANDARD, 2 * FAR + 1), [], 6)
        self.check_wrong(STANDARD.signed_in, slow_code(Alphabet.STANDARD, MOST), [], 5)


def value_of(text):
    value = 0
    for sign in text:
        value = 32 * value + Alphabet.STANDARD.index(sign) % 32
    return value


class TranslatedTest(unittest.TestCase):
    def test_signs_and_marks(self):
        text = Alphabet.STANDARD + ",;>.'" + Alphabet.STANDARD[::-1]
        for other in OTHERS:
            new = STANDARD.translated(text, other)
            self.assertEqual([other[index] for index in range(64)], list(new[:64]))
            self.assertEqual(",;>.'", new[64:69])
            self.assertEqual(text, other.translated(new, STANDARD))
            self.assertEqual(SOME, list(other.numbers_in(STANDARD.translated(STANDARD.codes(*SOME), other))))
        self.assertEqual("", STANDARD.translated("", STANDARD))

    def test_errors_in_their_order(self):
        for value in NO_TEXTS:
            fails(self, BadText, "place_index", None, STANDARD.translated, value, None)
        for value in NO_ALPHABETS:
            fails(self, BadAlphabet, "given", value, STANDARD.translated, "-", value)
        for sign in "-_ \n%\u00e9~":
            fails(self, BadText, "place_index", 2, STANDARD.translated, "A;" + sign + "?", STANDARD)


if __name__ == "__main__":
    unittest.main()
