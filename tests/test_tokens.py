"""mapstack.tokens: point [61]."""

import random
import unittest
from itertools import product

from mapstack.errors import BadName, BadProgram
from mapstack.tokens import spelled, tokens
from tests.progcases import OTHERS, WORDS, any_program, is_needed, tokens_by_words
from tests.support import NO_TEXTS, fails, small_texts

SAMPLES = (
    ("word", "ab"), ("word", "_"), ("word", "x9"), ("word", "Use"), ("word", "w" * 40), ("number", "0"),
    ("number", "0123"), ("number", "9" * 50), ("string", '""'), ("string", '"a b#c"'), ("string", "\"'\""),
    ("mark", "+"), ("mark", "'"), ("mark", "-"), ("mark", "\\"), ("mark", "~"), ("mark", "!"),
)


def all_tokens(text):
    return list(tokens(text))


class TokensTest(unittest.TestCase):
    def test_each_sort_alone(self):
        for sort, spelling in SAMPLES:
            self.assertEqual([(sort, spelling, 0, 0)], all_tokens(spelling))
            self.assertEqual([(sort, spelling, 1, 2)], all_tokens("\n  " + spelling + "  \n"))

    def test_every_sort_beside_every_other_one(self):
        for (sort, one), (other_sort, other) in product(SAMPLES, SAMPLES):
            for space in ("", " ", "   "):
                text = one + space + other
                apart = [(sort, one, 0, 0), (other_sort, other, 0, len(one) + len(space))]
                if space or (sort, other_sort) not in (("word", "word"), ("word", "number"), ("number", "number")):
                    self.assertEqual(apart, all_tokens(text))
                elif len(text) > 40 and sort == "word":
                    fails(self, BadProgram, "spot", (0, 0), all_tokens, text)
                else:
                    self.assertEqual([(sort, text, 0, 0)], all_tokens(text))

    def test_signs_of_words_and_numbers(self):
        words = "ABCDEFGHIJKLMNOPQRSTUVWXYZabcdefghijklmnopqrstuvwxyz_"
        for code in range(32, 127):
            sign = chr(code)
            sort = "word" if sign in words else "number" if sign in "0123456789" else "mark"
            expected = [] if sign in " #" else [(sort, sign, 0, 0)]
            if sign == '"':
                fails(self, BadProgram, "spot", (0, 0), all_tokens, sign)
            else:
                self.assertEqual(expected, all_tokens(sign))
        self.assertEqual([("number", "12", 0, 0), ("word", "ab1_2", 0, 2)], all_tokens("12ab1_2"))

    def test_small_texts(self):
        for text in small_texts(6, 'a1" #\n'):
            try:
                expected = tokens_by_words(text)
            except ValueError:
                self.assertRaises(BadProgram, all_tokens, text)
                continue
            self.assertEqual(expected, all_tokens(text), text)

    def test_random_programs(self):
        chance = random.Random(611)
        for _ in range(300):
            text = any_program(chance)
            self.assertEqual(tokens_by_words(text), all_tokens(text), text)

    def test_comments(self):
        for text, expected in (
            ("#", []), ("# a b", []), ("a#b", ["a"]), ("a # \" b\nc", ["a", "c"]), ('"#"#"', ['"#"']),
            ('"a" "# b" c # d "', ['"a"', '"# b"', "c"]), ("##\n#\n\n", []), ("a\n#" + "x" * 50, ["a"]),
            ('"#" #"', ['"#"']), ('""#""', ['""']),
        ):
            self.assertEqual(expected, [row[1] for row in tokens(text)])

    def test_strings_end_on_their_line(self):
        self.assertEqual([("string", '"a b"', 0, 1), ("string", '"c"', 0, 6)], all_tokens(' "a b""c"'))
        for text, spot in (
            ('"', (0, 0)), ('a"', (0, 1)), ('"a"b"', (0, 4)), ('x\n  "ab\n"', (1, 2)), ('"a\n"b"', (0, 0)),
            ('"" "', (0, 3)), ('"#', (0, 0)), ('a "b # c', (0, 2)), ('\n\n\n  "\n', (3, 2)),
        ):
            fails(self, BadProgram, "spot", spot, all_tokens, text)

    def test_long_words(self):
        word = "w" * 40
        self.assertEqual([("word", word, 0, 1)], all_tokens(" " + word))
        for text, spot in (
            (word + "w", (0, 0)), (word + "1", (0, 0)), ("a\n 1" + word + "_", (1, 2)), (f"{word} {word}{word}", (0, 41)),
        ):
            fails(self, BadProgram, "spot", spot, all_tokens, text)
        self.assertEqual(1, len(all_tokens("1" * 5000)))
        self.assertEqual(["1", word], [row[1] for row in tokens("1" + word)])
        self.assertEqual(1, len(all_tokens(f'"{word}{word}"')))
        self.assertEqual([], all_tokens("#" + word * 2))

    def test_the_first_wrong_one_counts(self):
        long = "w" * 41
        for text, spot in (
            (f'{long} "', (0, 0)), (f'" {long}', (0, 0)), (f'a {long}\n"', (0, 2)), (f'a "\n{long}', (0, 2)),
            (f'"" "{long}', (0, 3)), (f"{long} {long}", (0, 0)), (f'# "\n"\n{long}', (1, 0)),
        ):
            fails(self, BadProgram, "spot", spot, all_tokens, text)

    def test_raised_when_the_first_one_is_requested(self):
        late = tokens('a b c\n"')
        with self.assertRaises(BadProgram):
            next(late)
        late = tokens(None)
        with self.assertRaises(BadProgram):
            next(late)

    def test_how_long_programs_are(self):
        self.assertEqual(10000, len(all_tokens("a " * 10000)))
        self.assertEqual(20000, len(all_tokens("+" * 20000)))
        self.assertEqual([], all_tokens("\n" * 20000))
        for text in ("+" * 20001, " " * 20001, "\n" * 20001, '"' * 20001, "#" + " " * 20000):
            fails(self, BadProgram, "spot", None, all_tokens, text)

    def test_characters_that_no_program_has(self):
        """They are marks, as every other character but the space."""
        for sign in ("%", "\t", "\r", "\u00e4", "\u0661", "\x00", "\u2028"):
            self.assertEqual([("mark", sign, 0, 0)], all_tokens(sign))
            self.assertEqual(["a", sign, "1", sign, "_"], [row[1] for row in tokens(f"a{sign}1{sign}_")])
        self.assertEqual([("string", '"%\t"', 0, 0)], all_tokens('"%\t"'))

    def test_wrong_values(self):
        for value in NO_TEXTS:
            fails(self, BadProgram, "spot", None, all_tokens, value)
        self.assertEqual([("word", "a", 0, 0)], list(tokens(text="a")))


class SpelledTest(unittest.TestCase):
    def test_tokens_of_what_is_returned(self):
        chance = random.Random(612)
        every = WORDS + OTHERS
        for _ in range(300):
            row = tuple(chance.choice(every) for _ in range(chance.randrange(8)))
            text = spelled(row)
            self.assertEqual(list(row), [token[1] for token in tokens(text)])

    def test_no_space_too_many(self):
        for one, other in product([row[1] for row in SAMPLES], repeat=2):
            if len(one + other) <= 40:
                space = " " if is_needed(one, other) else ""
                self.assertEqual(one + space + other, spelled((one, other)))

    def test_needed_spaces(self):
        for row, text in (
            ((), ""), (("a",), "a"), (("a", "b"), "a b"), (("1", "2"), "1 2"), (("a", "1"), "a 1"), (("1", "a"), "1a"),
            (("a", "+", "b"), "a+b"), (('"x"', '"y"', "a", '"z"', "1"), '"x""y"a"z"1'), (("1", "a", "2"), "1a 2"),
            (("let", "x", "=", "1", "1"), "let x=1 1"),
        ):
            self.assertEqual(text, spelled(row))

    def test_wrong_values(self):
        for value in (True, None, 0, "", "a", b"a", [], ["a"], {}, {"a": 1}, object()):
            fails(self, BadName, "given", value, spelled, value)
        no_tokens = ("", " ", "a ", " a", "a b", "1a", "a+", "\n", "a\n", "#", "# a", "a#", '"', '"a', '"a\nb"', '"" ',
                     "w" * 41, "++", '""""', "+" * 20001, True, None, 0, 1, b"a", ("a",), ["a"], {}, object())
        for value in no_tokens:
            fails(self, BadName, "given", value, spelled, (value,))
            fails(self, BadName, "given", value, spelled, ("a", "1", value, None))
        self.assertEqual("a b", spelled(spellings=("a", "b")))

    def test_long_ones(self):
        self.assertEqual("w" * 40 + " " + "w" * 40, spelled(("w" * 40, "w" * 40)))
        self.assertEqual(30001, len(spelled(("1" * 10000,) * 3)) - 1)


if __name__ == "__main__":
    unittest.main()
