"""mapstack.tools: Expanding, point [67]."""

import random
import unittest

from mapstack.errors import BadName, BadProgram, TooLarge
from mapstack.tokens import tokens
from mapstack.tools import Expanding
from tests.progcases import OTHERS, any_line, check_made, check_runs, is_needed, kept_cells, point_cells, row_tokens
from tests.support import fails

NAMES = ("m", "n1", "_k", "x")


def put(spellings):
    """Tokens put together; a space comes in where both are read as others without it."""
    text = ""
    for index, spelling in enumerate(spellings):
        if index and is_needed(spellings[index - 1], spelling):
            text += " "
        text += spelling
    return text


def expanded_cells(text):
    """The words of [67]."""
    macros, made = {}, []
    for line, row in enumerate(text.split("\n")):
        found = row_tokens(row)[0]
        if found and found[0][1] == "let":
            value = []
            for _, spelling, _ in found[3:]:
                value += macros.get(spelling, [spelling])
            macros[found[1][1]] = value
            continue
        cells, at, before = [], 0, None
        for _, spelling, column in found:
            if spelling in macros:
                cells += kept_cells("p", line, row, at, column)
                value = macros[spelling]
                touches = before is not None and before[1] == column
                space = " " if touches and is_needed(before[0], value[0]) else ""
                cells += point_cells(space + put(value), "p", line, column, spelling)
                at = column + len(spelling)
            before = (spelling, column + len(spelling))
        made.append(cells + kept_cells("p", line, row, at))
    return made


def any_macro_program(chance):
    rows = []
    for _ in range(chance.randrange(1, 8)):
        if chance.random() < 0.4:
            value = [chance.choice(NAMES + OTHERS) for _ in range(chance.randrange(1, 4))]
            rows.append(chance.choice(("let %s = ", "  let  %s=", "let %s  =  ")) % chance.choice(NAMES))
            rows[-1] += chance.choice(("  ", " ")).join(value) + chance.choice(("", " # c", "#", "  "))
        else:
            row = any_line(chance, NAMES + ("use", "y"))
            # A number directly in front of a word is where a space may be needed.
            rows.append(row if chance.random() < 0.7 else row + " 1" + chance.choice(NAMES) + '"s"7x')
    return "\n".join(rows)


class ExpandingTest(unittest.TestCase):
    def test_every_position(self):
        chance = random.Random(671)
        for _ in range(500):
            text = any_macro_program(chance)
            made = Expanding()(text, "p")
            check_made(self, expanded_cells(text) or [[]], made)
            check_runs(self, made, {"p": text})

    def test_the_example(self):
        pair = Expanding()("let two = 1 + 1\nx two", "p")
        self.assertEqual("x 1+1", pair[0])
        self.assertEqual(
            (("run", 0, 0, "p", 1, 0), ("point", 0, 2, "p", 1, 2, "two"), ("gap", 0, 5)), pair[1][0]
        )

    def test_lines_that_are_left_out(self):
        for text, expected in (
            ("let a = 1", ""), ("let a = 1\n", ""), ("x\nlet a = 1", "x"), ("let a = 1\n\nx\n", "\nx\n"),
            ("let a = 1\nlet b = 2\n # c", " # c"), ("\nlet a = 1\n", "\n"), ("x\nlet a = 1\ny", "x\ny"), ("", ""),
        ):
            self.assertEqual(expected, Expanding().new_text(text))
        _, made = Expanding()("let a = 1\nx\nlet b = 2\ny", "p")
        self.assertEqual([("p", 1, 0, None), ("p", 3, 0, None)], [made(0, 0), made(1, 0)])

    def test_macros_count_for_the_lines_behind(self):
        self.assertEqual("a\n1 1", Expanding().new_text("a\nlet a = 1\na a"))
        self.assertEqual("1\n2\n2", Expanding().new_text("let a = 1\na\nlet a = 2\na\na"))
        self.assertEqual("a # a", Expanding().new_text("a # a\nlet a = 1"))
        self.assertEqual('1 # a\n"a" 1 A', Expanding().new_text('let a = 1\na # a\n"a" a A'))

    def test_macros_in_macros(self):
        for text, expected in (
            ("let a = 1\nlet b = a a\nb", "1 1"), ("let b = a a\nlet a = 1\nb a", "a a 1"),
            ("let a = a b\na", "a b"), ("let a = a b\nlet a = a c\na", "a b c"), ("let a = 1\nlet b = a\nlet a = 2\nb a", "1 2"),
            ("let a = 1 + 1\nlet b = a a ( a\nb", "1+1 1+1(1+1"), ("let a = x 1\nlet b = a a + 2\nb", "x 1x 1+2"),
            ('let a = "s"\nlet b = a a\nb b', '"s""s" "s""s"'),
        ):
            self.assertEqual(expected, Expanding().new_text(text))

    def test_tokens_of_macros_are_put_together(self):
        for value, expected in (
            ("1 + 1", "1+1"), ("x   y", "x y"), ("1 2", "1 2"), ("x 1", "x 1"), ("1 x", "1x"), ("f ( x , 2 ) # c", "f(x,2)"),
            ('"a  b" c', '"a  b"c'), ("= =", "=="), ("use x", "use x"), ("let let", "let let"), ("=", "="),
        ):
            self.assertEqual(expected, Expanding().new_text(f"let m = {value}\nm"))

    def test_spaces_that_are_needed(self):
        for value, row, expected in (
            ("2", "1m", "1 2"), ("x", "1m", "1x"), ("2", "+m", "+2"), ("2", "(m)m", "(2)2"), ("2", '"s"m"t"', '"s"2"t"'),
            ("2", "1 m", "1 2"), ("2", "m 1m", "2 1 2"), ("2 + x", "1m+1m", "1 2+x+1 2+x"), ("2", "x1 m", "x1 2"),
        ):
            self.assertEqual(expected, Expanding().new_text(f"let m = {value}\n{row}"))
        text, made = Expanding()("let m = 2\n1m  m", "p")
        self.assertEqual("1 2  2", text)
        self.assertEqual([
            ("run", 0, 0, "p", 1, 0), ("point", 0, 1, "p", 1, 1, "m"), ("run", 0, 3, "p", 1, 2),
            ("run", 0, 5, "p", 1, 4, "m"), ("gap", 0, 6),
        ], list(made.pieces()))

    def test_spaces_and_comments_stay(self):
        self.assertEqual("  x   1+1 # two  ", Expanding().new_text("let two = 1 + 1\n  x   two # two  "))

    def test_words_that_can_be_macros(self):
        for name in ("m", "_", "Let", "uses", "w" * 40, "x1"):
            self.assertEqual("1", Expanding().new_text(f"let {name} = 1\n{name}"))
        self.assertEqual("use 1", Expanding().new_text("let x = 1\nuse x"))

    def test_let_lines_that_are_refused(self):
        wrong = (
            "let", "let x", "let x =", "let = 1", "let x 1", "let x + 1", "let 1 = x", 'let "x" = 1', "let use = 1",
            "let let = 1", "let let", "let x y = 1", "let + = 1", "let x = # 1", "let # x = 1", "let(x)=1", "let 1",
            "let x=", "let x 1 2", "let x y z",
        )
        self.assertEqual("=", Expanding().new_text("let x ==\nx"))
        for row in wrong:
            for front, line in (("", 0), ("\n  ", 1), ("x\nlet y = 2\n", 2)):
                fails(self, BadProgram, "spot", (line, 0), Expanding(), front + row, "p")
                fails(self, BadProgram, "spot", (line, 0), Expanding().new_text, f"{front}{row}\n x\nlet")
        for row in ("x let", '"let"', "# let", "lets x", "+let", "1let = x", "Let x"):
            self.assertEqual(row, Expanding().new_text(row))

    def test_order_of_errors(self):
        fails(self, BadProgram, "spot", None, Expanding(), None, None)
        fails(self, BadName, "given", "", Expanding(), "let", "")
        # The tokens of all lines are read first.
        fails(self, BadProgram, "spot", (1, 0), Expanding(), 'let\n"', "p")
        fails(self, BadProgram, "spot", (1, 0), Expanding(), "x\nlet\nlet", "p")
        doubled = "let a = " + "+" * 9000 + "\nlet b = a a a\n"
        fails(self, BadProgram, "spot", (2, 0), Expanding(), doubled + "let", "p")
        fails(self, BadProgram, "spot", (3, 0), Expanding(), doubled + "b\nlet x =", "p")
        fails(self, TooLarge, "limit", 20000, Expanding(), doubled, "p")

    def test_macros_that_are_too_long(self):
        many = "let a = " + "+" * 10000
        self.assertEqual(20000, len(Expanding().new_text(many + "\nlet b = a a\nb")))
        self.assertEqual("", Expanding().new_text(many + "\nlet b = a a"))
        fails(self, TooLarge, "limit", 20000, Expanding(), many + "\nlet b = a a 1", "p")
        fails(self, TooLarge, "limit", 20000, Expanding(), many + "\nlet b = a a 1\nlet b = 1\nb", "p")
        numbers = "let a = " + "1" * 10000
        # The space between both is the one that is too many.
        fails(self, TooLarge, "limit", 20000, Expanding(), numbers + "\nlet b = a a", "p")
        self.assertEqual("", Expanding().new_text("let a = " + "1" * 9999 + "\nlet b = a a +"))

    def test_texts_that_are_too_long(self):
        many = "let a = " + "+" * 5000 + "\n"
        for rows in ("(a)(a)(a" + "-" * 4995, "a\na\na" + "-" * 4998, "a a a " + "-" * 4997):
            self.assertEqual(20000, len(Expanding().new_text(many + rows)))
            for more in ("-", " ", "\n"):
                fails(self, TooLarge, "limit", 20000, Expanding(), many + rows + more, "p")
        numbers = "let a = " + "2" * 5000 + "\n"
        # The space between the numbers comes with the macro.
        self.assertEqual(20000, len(Expanding().new_text(numbers + "1a+1a+1a" + "-" * 4992)))
        fails(self, TooLarge, "limit", 20000, Expanding(), numbers + "1a+1a+1a" + "-" * 4993, "p")

    def test_very_many_macros(self):
        """Each doubles the one before, up to the limit, and is used as often as there is room."""
        rows = ["let m0 = + +"] + [f"let m{n} = m{n - 1} m{n - 1}" for n in range(1, 13)]
        self.assertEqual(8192, len(Expanding().new_text("\n".join(rows) + "\nm12")))
        rows += [f"let m{n} = m{n - 1} m{n - 1}" for n in range(13, 40)]
        fails(self, TooLarge, "limit", 20000, Expanding(), "\n".join(rows), "p")
        wide = "let m = " + "+" * 9000 + "\nlet n = m m\n"
        fails(self, TooLarge, "limit", 20000, Expanding(), wide + "1n " * 3000, "p")
        fails(self, TooLarge, "limit", 20000, Expanding(), wide + "let o = " + "n " * 5000, "p")
        again = "let m = " + "+" * 9000 + "\nlet n = m m\n" + "let a = n\n" * 1000
        self.assertEqual("", Expanding().new_text(again))

    def test_tokens_of_what_is_made(self):
        chance = random.Random(672)
        for _ in range(200):
            text = any_macro_program(chance)
            made = Expanding().new_text(text)
            macros, expected = {}, []
            for row in text.split("\n"):
                row = [spelling for _, spelling, _ in row_tokens(row)[0]]
                if row[:1] == ["let"]:
                    macros[row[1]] = [part for spelling in row[3:] for part in macros.get(spelling, [spelling])]
                else:
                    expected += [part for spelling in row for part in macros.get(spelling, [spelling])]
            self.assertEqual(expected, [row[1] for row in tokens(made)])


if __name__ == "__main__":
    unittest.main()
