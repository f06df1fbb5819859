"""mapstack.tools: points [62] to [64] and [68]; those of the other tools have tests of their own."""

import itertools
import random
import unittest

from mapstack.errors import BadName, BadNumber, BadProgram, TooLarge
from mapstack.maps import Map
from mapstack.tokens import tokens
from mapstack.tools import Expanding, Including, Shortening, Stripping, Tool, Wrapping
from tests.progcases import (
    any_program, check_made, check_runs, is_needed, kept_cells, point_cells, row_tokens, text_of, tokens_by_words,
)
from tests.support import NO_INTEGERS, NO_NAMES, NO_TEXTS, fails, small_texts

WIDE = "w" * 41
LETTERS = "abcdefghijklmnopqrstuvwxyz"
PLAIN = (
    "", "\n", "\n\n\n", "   ", "  \n ", "a", "a\n", "\na", "a\n\n", "# c", " # c\n", "a # c", "  a  b  ", "a  1 # b\n\n  c",
    '"a  #  b"', '"x" # "y', "1 2\n1 a\na 1", "a b\n\n#\nc d\n",
)
TOOLS = (
    (Tool(), "same"), (Stripping(), "stripped"), (Shortening(), "shortened"), (Including({}), "included"),
    (Expanding(), "expanded"), (Wrapping(4), "wrapped"),
)


def spellings(text):
    return [row[1] for row in tokens(text)]


def programs(many, seed, words=None):
    """Plain programs, and some at random without use lines and let lines."""
    chance = random.Random(seed)
    words = words or ("alpha", "beta", "b", "x1", "_", "gamma_2", "c")
    return list(PLAIN) + [any_program(chance, words) for _ in range(many)]


class EveryToolTest(unittest.TestCase):
    def test_titles(self):
        for tool, title in TOOLS:
            self.assertEqual(title, tool.TITLE)
            self.assertIsInstance(tool, Tool)
        self.assertEqual(["same", "stripped", "shortened", "included", "expanded", "wrapped"], [
            kind.TITLE for kind in (Tool, Stripping, Shortening, Including, Expanding, Wrapping)
        ])

    def test_runs_show_the_characters_to_which_they_lead(self):
        for text in programs(60, 621):
            for tool, _ in TOOLS:
                made = tool(text, "p")
                check_runs(self, made, {"p": text})
                lengths = tuple(len(line) for line in made[0].split("\n"))
                self.assertEqual(made[1], made[1].closed(lengths))

    def test_new_text(self):
        for text in programs(20, 622):
            for tool, _ in TOOLS:
                self.assertEqual(tool(text, "-")[0], tool.new_text(text))
                self.assertEqual(tool(text, "p")[0], tool.new_text(text=text))
                self.assertEqual(tool(text, "p"), tool(source="p", text=text))

    def test_the_name_of_the_source(self):
        for tool, _ in TOOLS:
            for name in ("-", "a/b.c-d_9", "0", "n" * 40):
                self.assertEqual((name,), tool("a", name)[1].sources())

    def test_wrong_values(self):
        for tool, _ in TOOLS:
            for value in NO_TEXTS + ("+" * 20001,):
                fails(self, BadProgram, "spot", None, tool, value, "p")
                fails(self, BadProgram, "spot", None, tool.new_text, value)
            for value in NO_NAMES:
                fails(self, BadName, "given", value, tool, "a", value)
            for text, spot in (('a\n "', (1, 1)), (f"a {WIDE}", (0, 2)), (f'{WIDE}\n"', (0, 0))):
                fails(self, BadProgram, "spot", spot, tool, text, "p")
                fails(self, BadProgram, "spot", spot, tool.new_text, text)

    def test_several_at_once(self):
        for tool, _ in TOOLS:
            fails(self, BadProgram, "spot", None, tool, None, None)
            fails(self, BadProgram, "spot", None, tool, '"' * 20001, None)
            fails(self, BadName, "given", "", tool, '"', "")
            fails(self, BadProgram, "spot", (9999, 0), tool, "a\n" * 9999 + '"', "p")

    def test_too_many_pieces(self):
        """A line of a map that is closed has a piece for its end, too."""
        fits = "a\n" * 5000
        for tool, _ in TOOLS:
            text, made = tool(fits, "p")
            self.assertEqual((text.count("\n"), 10000), (5000, len(made)))
            fails(self, TooLarge, "limit", 10000, tool, fits + "a", "p")

    def test_longest_programs(self):
        text = "+" * 20000
        for tool in (Tool(), Shortening(), Including({}), Expanding(), Wrapping(1)):
            self.assertEqual(text, tool(text, "p")[0])
        self.assertEqual(text[:19999] + "\n", Stripping()(text[:19999], "p")[0])
        fails(self, TooLarge, "limit", 20000, Stripping(), text, "p")

    def test_tools_stay_the_same(self):
        for tool, _ in TOOLS:
            one = tool("alpha  b # c\nalpha", "p")
            tool("other  text\n", "q")
            self.assertEqual(one, tool("alpha  b # c\nalpha", "p"))


class ToolTest(unittest.TestCase):
    def test_nothing_changes(self):
        for text in programs(40, 623, ("use", "let", "a", "b")):
            cells = [kept_cells("p", line, row) for line, row in enumerate(text.split("\n"))]
            check_made(self, cells, Tool()(text, "p"))
            self.assertEqual(text, Tool().new_text(text))
            lengths = tuple(len(row) for row in text.split("\n"))
            self.assertEqual(Map.identity("p", lengths), Tool()(text, "p")[1])


class StrippingTest(unittest.TestCase):
    def cells(self, text):
        """The words of [63]; whether a space is needed is told by reading both tokens without it."""
        made = []
        for line, row in enumerate(text.split("\n")):
            found, _ = row_tokens(row)
            cells = []
            for index, (_, spelling, column) in enumerate(found):
                after = column + len(spelling)
                cells += kept_cells("p", line, row, column, after)
                if index + 1 < len(found) and is_needed(spelling, found[index + 1][1]):
                    cells.append((" ", ("p", line, after, None)))
            if found:
                made.append(cells)
        return made + [[]]

    def test_every_position(self):
        for text in programs(300, 631, ("alpha", "b", "x1", "use", "let")):
            check_made(self, self.cells(text), Stripping()(text, "p"))

    def test_small_programs(self):
        for text in small_texts(6, "a1 #\n"):
            check_made(self, self.cells(text), Stripping()(text, "p"))

    def test_plain_ones(self):
        for text, expected in (
            ("", ""), ("\n\n", ""), ("# only\n  # comments", ""), ("a", "a\n"), ("a\n", "a\n"), ("\n\na", "a\n"),
            ("a + b # c\n\n  d", "a+b\nd\n"), ("1   2", "1 2\n"), ("1 a", "1a\n"), ("a 1", "a 1\n"), ('"a  b"  c', '"a  b"c\n'),
            ('a "#" # c', 'a"#"\n'), ("let x = 1 + y", "let x=1+y\n"), ("a   b   c", "a b c\n"),
        ):
            self.assertEqual(expected, Stripping().new_text(text))

    def test_the_first_space_stays(self):
        _, made = Stripping()("a   b\n  c", "p")
        self.assertEqual([
            ("run", 0, 0, "p", 0, 0), ("run", 0, 2, "p", 0, 4), ("gap", 0, 3), ("run", 1, 0, "p", 1, 2), ("gap", 1, 1),
        ], list(made.pieces()))

    def test_no_shorter_line_has_these_tokens(self):
        for text in programs(100, 632):
            for row in Stripping().new_text(text).split("\n"):
                for column, sign in enumerate(row):
                    if sign == " ":
                        shorter = row[:column] + row[column + 1:]
                        self.assertNotEqual(spellings(row), spellings(shorter))

    def test_tokens_stay_and_twice_is_once(self):
        for text in programs(100, 633):
            made = Stripping().new_text(text)
            self.assertEqual(spellings(text), spellings(made))
            self.assertEqual(made, Stripping().new_text(made))


def new_words_by_words(text, keep=()):
    """The words of [64]."""
    keeping = {"use", "let"} | set(keep)
    for row in text.split("\n"):
        row = [item[:2] for item in row_tokens(row)[0]]
        if len(row) == 2 and row[0] == ("word", "use") and row[1][0] == "word":
            keeping.add(row[1][1])
    words = [spelling for sort, spelling, _, _ in tokens_by_words(text) if sort == "word" and spelling not in keeping]
    order = sorted(set(words), key=lambda word: (-words.count(word), words.index(word)))
    rows = itertools.chain(LETTERS, ("".join(row) for row in itertools.product(LETTERS, repeat=2)),
                           ("".join(row) for row in itertools.product(LETTERS, repeat=3)))
    free = [row for row in itertools.islice(rows, 900) if row not in keeping]
    return dict(zip(order, free))


class ShorteningTest(unittest.TestCase):
    def cells(self, text, keep=()):
        words = new_words_by_words(text, keep)
        made = []
        for line, row in enumerate(text.split("\n")):
            cells, at = [], 0
            for _, spelling, column in row_tokens(row)[0]:
                if spelling in words:
                    cells += kept_cells("p", line, row, at, column)
                    cells += point_cells(words[spelling], "p", line, column, spelling)
                    at = column + len(spelling)
            made.append(cells + kept_cells("p", line, row, at))
        return made

    def test_every_position(self):
        chance = random.Random(641)
        every = ("alpha", "beta", "b", "x1", "_", "gamma_2", "c", "use", "let", "a")
        for text in programs(200, 642, every):
            keep = chance.sample(every + ("d", "e"), chance.choice((0, 0, 1, 3)))
            tool = Shortening(*keep)
            check_made(self, self.cells(text, keep), tool(text, "p"))
            self.assertEqual(list(new_words_by_words(text, keep).items()), list(tool.new_words(text).items()))

    def test_order_of_the_new_words(self):
        tool = Shortening()
        self.assertEqual([("y", "a"), ("x", "b"), ("z", "c")], list(tool.new_words("x y z y").items()))
        self.assertEqual([("x", "a"), ("y", "b"), ("z", "c")], list(tool.new_words("x y\nz").items()))
        self.assertEqual([("b", "a"), ("a", "b")], list(tool.new_words("b a a b").items()))
        self.assertEqual([("long", "a")], list(tool.new_words('long "other" # third\n1').items()))
        self.assertEqual({}, tool.new_words(""))
        self.assertEqual("a a b", tool.new_text("one one two"))

    def test_each_use_counts(self):
        self.assertEqual({"b": "a", "a": "b"}, Shortening().new_words("a b\nb # a a a\n\"a a\" + b(a)\nb"))

    def test_kept_words(self):
        text = "use alpha\nuse beta # c\nlet gamma = use\nuse use\nalpha use delta\nuse 1\nuse x y\n\"use\" z"
        expected = {"gamma": "a", "delta": "b", "x": "c", "y": "d", "z": "e"}
        self.assertEqual(expected, Shortening().new_words(text))
        self.assertEqual({"gamma": "a", "delta": "c", "x": "d", "z": "e"}, Shortening("b", "y").new_words(text))
        made = Shortening().new_text(text)
        self.assertEqual(
            "use alpha\nuse beta # c\nlet a = use\nuse use\nalpha use b\nuse 1\nuse c d\n\"use\" e", made
        )

    def test_new_words_that_are_kept(self):
        self.assertEqual({"x": "b", "y": "d"}, Shortening("a", "c").new_words("x x y"))
        self.assertEqual({"x": "b"}, Shortening().new_words("use a\nx"))
        self.assertEqual({"x": "a"}, Shortening("x1").new_words("x x1"))
        self.assertEqual({}, Shortening("x").new_words("x x"))

    def test_new_words_of_two_letters_and_of_three(self):
        words = [f"w{n}" for n in range(720)]
        text = "\n".join(words)
        made = Shortening().new_words(text)
        self.assertEqual(["a", "z", "aa", "ab", "az", "ba", "zz", "aaa", "aar"],
                         [made[words[n]] for n in (0, 25, 26, 27, 51, 52, 701, 702, 719)])
        kept_out = Shortening("b", "aa").new_words(text)
        self.assertEqual(["a", "c", "z", "ab"], [kept_out[words[n]] for n in (0, 1, 24, 25)])
        self.assertEqual(720, len(set(made.values())))

    def test_let_and_use_are_no_new_words(self):
        rows = itertools.chain.from_iterable(itertools.product(LETTERS, repeat=many) for many in (1, 2, 3))
        short = ["".join(row) for row in rows]
        for kept in ("let", "use"):
            at = short.index(kept)
            made = Shortening(*short[:at - 1]).new_words("x1 y1 z1 x1")
            self.assertEqual({"x1": short[at - 1], "y1": short[at + 1], "z1": short[at + 2]}, made)

    def test_no_other_assignment_is_shorter(self):
        chance = random.Random(643)
        keep = LETTERS[2:]
        for _ in range(40):
            words = ["".join(chance.choice("xyz") for _ in range(3)) for _ in range(4)]
            text = " ".join(chance.choice(words) for _ in range(12))
            tool = Shortening(*keep)
            given = tool.new_words(text)
            best = min(
                sum(len(dict(zip(given, row))[word]) for word in text.split(" "))
                for row in itertools.permutations(given.values())
            )
            self.assertEqual(best, len(tool.new_text(text).replace(" ", "")))

    def test_points_with_the_old_words(self):
        text, made = Shortening()("ab (xyz) ab", "p")
        self.assertEqual("a (b) a", text)
        self.assertEqual([("p", 0, 0, "ab"), ("p", 0, 2, None), ("p", 0, 3, None), ("p", 0, 4, "xyz")],
                         [made(0, column) for column in range(4)])
        self.assertEqual([("run", 0, 0, "p", 0, 0), ("gap", 0, 3)], list(Shortening(*LETTERS)("x q", "p")[1].pieces()))
        text, made = Shortening(*LETTERS)("_ Q", "p")
        self.assertEqual(("aa ab", [
            ("point", 0, 0, "p", 0, 0, "_"), ("run", 0, 2, "p", 0, 1), ("point", 0, 3, "p", 0, 2, "Q"), ("gap", 0, 5),
        ]), (text, list(made.pieces())))

    def test_text_that_becomes_too_long(self):
        signs = "ABCDEFGHIJKLMNOPQRSTUVWXYZ_"
        # Twenty-seven words of one letter: the last one gets two.
        text = " ".join(signs) + "+" * (20000 - 53)
        self.assertEqual(20000, len(text))
        fails(self, TooLarge, "limit", 20000, Shortening(), text, "p")
        self.assertEqual(27, len(Shortening().new_words(text)))
        self.assertEqual(20000, len(Shortening()(text[:-1], "p")[0]))

    def test_wrong_values(self):
        no_words = ("", "1a", "a b", "a-b", "a.b", "a/b", "+", '"a"', "w" * 41, "\u00e4", "a\n")
        for value in no_words + tuple(value for value in NO_TEXTS if value != ()) + ((),):
            fails(self, BadName, "given", value, Shortening, value)
            fails(self, BadName, "given", value, Shortening, "a", "use", value, None)
        self.assertEqual({"x": "a"}, Shortening("let", "_", "w" * 40, "let").new_words(text="x"))
        for value in NO_TEXTS + ("+" * 20001,):
            fails(self, BadProgram, "spot", None, Shortening().new_words, value)
        fails(self, BadProgram, "spot", (1, 0), Shortening().new_words, 'a\n"')


class WrappingTest(unittest.TestCase):
    def breaks(self, row):
        found, comment = row_tokens(row)
        ends = [column + len(spelling) for _, spelling, column in found]
        begins = [column for _, _, column in found[1:]] + ([] if comment is None else [comment])
        return [(end, begin) for end, begin in zip(ends, begins) if begin > end]

    def cells(self, text, width):
        """The words of [68], with the rest of a line as a line again."""
        made = []
        for line, row in enumerate(text.split("\n")):
            begin = 0
            while len(row) - begin > width:
                breaks = [span for span in self.breaks(row) if span[0] > begin]
                if not breaks:
                    break
                fitting = [span for span in breaks if span[0] - begin <= width]
                first, after = fitting[-1] if fitting else breaks[0]
                made.append(kept_cells("p", line, row, begin, first))
                begin = after
            made.append(kept_cells("p", line, row, begin))
        return made

    def test_every_position(self):
        for text in programs(150, 651, ("alpha", "b", "x1", "use", "let")):
            for width in (1, 2, 5, 8, 13, 1000):
                made = Wrapping(width)(text, "p")
                check_made(self, self.cells(text, width), made)
                self.assertEqual(spellings(text), spellings(made[0]))

    def test_fits_exactly(self):
        for text, width, expected in (
            ("abc de", 6, "abc de"), ("abc de", 5, "abc\nde"), ("ab cd ef", 5, "ab cd\nef"), ("ab cd ef", 4, "ab\ncd\nef"),
            ("ab cd ef", 7, "ab cd\nef"), ("ab cd ef", 8, "ab cd ef"), ("abcdef gh", 3, "abcdef\ngh"),
            ("abcdef gh ij", 5, "abcdef\ngh ij"), ("a b c d", 3, "a b\nc d"), ("a b c d", 2, "a\nb\nc\nd"),
        ):
            self.assertEqual(expected, Wrapping(width).new_text(text))

    def test_all_the_spaces_of_a_break(self):
        for text, width, expected in (
            ("ab   cd", 2, "ab\ncd"), ("ab   cd", 6, "ab\ncd"), ("ab   cd", 7, "ab   cd"), ("a    b  c", 6, "a    b\nc"),
            ("   ab cd", 5, "   ab\ncd"), ("   ab cd", 2, "   ab\ncd"), ("ab cd   ", 7, "ab\ncd   "),
            ("ab cd   ", 5, "ab\ncd   "), ("ab      ", 3, "ab      "),
        ):
            self.assertEqual(expected, Wrapping(width).new_text(text))

    def test_comments(self):
        for text, width, expected in (
            ("ab # c d e", 5, "ab\n# c d e"), ("ab  # c", 7, "ab  # c"), ("ab  # c", 6, "ab\n# c"), ("# a b c", 2, "# a b c"),
            ("ab# c d", 2, "ab# c d"), ("  # a b", 2, "  # a b"), ("a b # c", 3, "a b\n# c"), ("a b# c", 3, "a\nb# c"),
        ):
            self.assertEqual(expected, Wrapping(width).new_text(text))

    def test_lines_without_a_break(self):
        for text in ("abcdef", "a+b+c+d", "(a)+(b)", '"a b c d"', "   abc", "abc   ", "      ", "", "\n"):
            self.assertEqual(text, Wrapping(1).new_text(text))
        self.assertEqual('a\n"b c"\nd', Wrapping(1).new_text('a "b c" d'))

    def test_fewest_lines(self):
        """If some way leaves no line too long, none has fewer lines."""
        chance = random.Random(652)
        tried = 0
        for _ in range(300):
            row = any_program(chance, ("ab", "c", "defg"), lines=1, most=6)
            breaks = self.breaks(row)
            for width in (4, 7, 10):
                best = None
                for many in range(len(breaks) + 1):
                    for chosen in itertools.combinations(breaks, many):
                        ends = [end for end, _ in chosen] + [len(row)]
                        begins = [0] + [begin for _, begin in chosen]
                        if all(end - begin <= width for begin, end in zip(begins, ends)):
                            best = many + 1 if best is None else best
                if best is not None:
                    tried += 1
                    lines = Wrapping(width).new_text(row).split("\n")
                    self.assertEqual(best, len(lines))
                    self.assertLessEqual(max(map(len, lines)), width)
        self.assertGreater(tried, 300)

    def test_widths(self):
        for many in (1000, 1001):
            self.assertEqual("+" * many + "\nb", Wrapping(1000).new_text("+" * many + " b"))
        self.assertEqual("+" * 998 + " b", Wrapping(1000).new_text("+" * 998 + " b"))
        text = " ".join(["+"] * 501)
        self.assertEqual((1001, 1), (len(text), Wrapping(1000).new_text(text).count("\n")))
        for value in NO_INTEGERS + (0, -1, 1001, 10 ** 99):
            fails(self, BadNumber, "given", value, Wrapping, value)
        self.assertEqual("a\nb", Wrapping(width=1).new_text("a b"))

    def test_long_lines(self):
        text = "+ " * 4000
        made, own_map = Wrapping(1)(text, "p")
        self.assertEqual(("+\n" * 4000)[:-1] + " ", made)
        self.assertEqual(("p", 0, 7998, None), own_map(3999, 0))


if __name__ == "__main__":
    unittest.main()
