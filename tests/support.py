"""What several tests need: small texts, positions, values of other kinds, and a check of errors."""

from itertools import product

NO_INTEGERS = (True, False, None, "", "1", b"1", (), (1,), [], [1], {}, {1: 1}, object())
NO_NUMBERS = NO_INTEGERS + (-1, -10 ** 99)
NO_TEXTS = (True, False, None, 0, 7, -1, b"", b"ab", (), ("a",), [], ["a"], {}, object())
NO_PLACES = (
    True, False, None, 0, -1, "", "ab", b"ab", [], [0, 0], {}, (), (0,), (0, 0, 0), (0, -1), (-1, 0), (True, 0),
    (0, False), (0, None), ("0", 0), ((0, 0), 0), (0, [0]), object(),
)
NO_NAMES = (
    True, False, None, 0, 3, "", "a b", "a" * 41, "a\n", "\n", "a%", "a:b", "\u00e4", "\u0661", b"a", (), ("a",), [],
    ["a"], {}, object(),
)


def small_texts(most, signs="ab\n"):
    """All texts of up to so many signs."""
    return ["".join(row) for many in range(most + 1) for row in product(signs, repeat=many)]


def places_of(text):
    """All positions in a text, with their indexes."""
    places = []
    line = column = 0
    for index, sign in enumerate(text + "\n"):
        places.append(((line, column), index))
        column += 1
        if sign == "\n":
            line, column = line + 1, 0
    return places


def grid(lines, columns):
    return [(line, column) for line in range(lines) for column in range(columns)]


def fails(case, error, field, worth, call, *args, **named):
    """Check that a call raises just this error, with this value in its field."""
    with case.assertRaises(error) as held:
        call(*args, **named)
    case.assertIs(error, held.exception.__class__)
    found = getattr(held.exception, field)
    case.assertEqual(worth, found)
    case.assertIs(worth.__class__, found.__class__)
