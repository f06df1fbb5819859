"""Codes: integers as rows of the signs of an alphabet."""

from mapstack.checks import check_text, check_up_to, is_integer
from mapstack.errors import BadAlphabet, BadNumber, BadText

CODE_LIMIT = 10 ** 12
SIGNED_LIMIT = 10 ** 9
FOLDED_LIMIT = 2 * 10 ** 9
MANY_SIGNS = 64
MANY_DIGITS = 32
# No text has this character.
PERCENT_SIGN = 37


def folded(number):
    """The integer from 0 on that stands for one with a sign."""
    if not is_integer(number) or not -SIGNED_LIMIT <= number <= SIGNED_LIMIT:
        raise BadNumber(number)
    return 2 * number if number >= 0 else -2 * number - 1


def unfolded(number):
    """The integer with a sign for which one from 0 on stands."""
    check_up_to(number, FOLDED_LIMIT)
    half = number // 2
    return half if number == 2 * half else -half - 1


def digit_fits(number, index, even_top, odd_top):
    """Whether the sign at an index can stand behind digits that make this number.

    The right numbers are the even ones up to one top and the odd ones up to the other one. A first
    digit 0 with more behind it would be needless.
    """
    digit = index & 31
    made = MANY_DIGITS * number + digit
    if index == digit:
        return made <= (odd_top if made & 1 else even_top)
    if made == 0:
        return False
    return MANY_DIGITS * made <= even_top or MANY_DIGITS * made + 1 <= odd_top


def _is_row_of_signs(value):
    if not isinstance(value, str) or len(value) != MANY_SIGNS or len(set(value)) != MANY_SIGNS:
        return False
    return all([" " <= sign <= "~" and ord(sign) != PERCENT_SIGN and sign not in Alphabet.MARKS for sign in value])


class Alphabet:
    """64 signs: the digits from 0 to 31, and the same ones with more digits behind."""

    STANDARD = "ABCDEFGHIJKLMNOPQRSTUVWXYZabcdefghijklmnopqrstuvwxyz0123456789+/"
    MARKS = ",;>.'"

    def __init__(self, signs):
        if not _is_row_of_signs(signs):
            raise BadAlphabet(signs)
        self._signs = signs
        self._indexes = {sign: index for index, sign in enumerate(signs)}

    @classmethod
    def standard(cls):
        return cls(cls.STANDARD)

    def _code_of(self, number):
        check_up_to(number, CODE_LIMIT)
        code = self._signs[number & 31]
        rest = number // MANY_DIGITS
        while rest > 0:
            code = self._signs[MANY_DIGITS + (rest & 31)] + code
            rest = rest // MANY_DIGITS
        return code

    def __call__(self, number):
        """The code of a number."""
        return self._code_of(number)

    def signed(self, number):
        """The signed code of a number."""
        return self._code_of(folded(number))

    def codes(self, *numbers):
        """The codes of numbers, one behind the other."""
        return "".join([self._code_of(number) for number in numbers])

    def __contains__(self, x):
        """Whether a value is one of the signs."""
        return isinstance(x, str) and x in self._indexes

    def __getitem__(self, at):
        """The sign at an index."""
        check_up_to(at, MANY_SIGNS - 1)
        return self._signs[at]

    def __iter__(self):
        raise TypeError("an alphabet is not iterated over; its signs have indexes")

    def __len__(self):
        return len(self._signs)

    def __eq__(self, other):
        return isinstance(other, Alphabet) and self._signs == other._signs

    def sign_index(self, sign):
        """The index of a character, or None if it is no sign."""
        return self._indexes.get(sign)

    def _read(self, text, limit):
        """The numbers up to a limit of the codes in a text, and the first wrong index or None."""
        numbers = []
        number, begun = 0, False
        for place_index, sign in enumerate(text):
            index = self._indexes.get(sign)
            if index is None or not digit_fits(number, index, limit, limit):
                return numbers, place_index
            number = MANY_DIGITS * number + (index & 31)
            begun = index >= MANY_DIGITS
            if not begun:
                numbers.append(number)
                number = 0
        return numbers, len(text) if begun else None

    def numbers_in(self, text):
        """Yield the numbers of the codes in a text."""
        check_text(text)
        numbers, wrong = self._read(text, CODE_LIMIT)
        for number in numbers:
            yield number
        if wrong is not None:
            raise BadText(wrong)

    def signed_in(self, text):
        """Yield the numbers of the signed codes in a text."""
        check_text(text)
        numbers, wrong = self._read(text, FOLDED_LIMIT)
        for number in numbers:
            yield unfolded(number)
        if wrong is not None:
            raise BadText(wrong)

    def translated(self, text, other):
        """The text with the signs of the other alphabet at the same indexes, and the marks."""
        check_text(text)
        if not isinstance(other, Alphabet):
            raise BadAlphabet(other)
        out = []
        for place_index, sign in enumerate(text):
            index = self._indexes.get(sign)
            if index is None and sign not in Alphabet.MARKS:
                raise BadText(place_index)
            out.append(sign if index is None else other._signs[index])
        return "".join(out)
