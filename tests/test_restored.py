"""mapstack.tools: restored, point [65]."""

import random
import unittest

from mapstack.errors import BadMap, BadName, BadProgram, TooLarge
from mapstack.maps import ClosedMap, Map
from mapstack.tokens import tokens
from mapstack.tools import Expanding, Shortening, Stripping, Tool, restored
from tests.mapcases import FAR, any_segments
from tests.progcases import any_program, check_made, is_needed, kept_cells, point_cells, row_tokens
from tests.support import NO_NAMES, NO_TEXTS, fails

NO_MAPS = (True, False, None, 0, -1, "s", b"", (), ("run", 0, 0, "s", 0, 0), [], {}, {"s": Map()}, object())
WORD = set("ABCDEFGHIJKLMNOPQRSTUVWXYZabcdefghijklmnopqrstuvwxyz0123456789_")


def is_told(target):
    """Whether a target has a word that is one of a program."""
    if target is None or target[3] is None:
        return False
    return len(target[3]) <= 40 and target[3][0] not in "0123456789" and set(target[3]) <= WORD


def restored_cells(text, own_map):
    """The words of [65], group by group of neighbors."""
    made = []
    for line, row in enumerate(text.split("\n")):
        groups = []
        for _, spelling, column in row_tokens(row)[0]:
            target = own_map.target_at(line, column)
            target = target if is_told(target) else None
            if groups and target is not None and groups[-1][0] == target:
                groups[-1] = (target, target[3], groups[-1][2], column + len(spelling))
            else:
                groups.append((target, target[3] if target else spelling, column, column + len(spelling)))
        cells, at, before = [], 0, None
        for target, spelling, first, after in groups:
            cells += kept_cells("g", line, row, at, first)
            if before is not None and before[1] == first and is_needed(before[0], spelling):
                cells.append((" ", None))
            if target is None:
                cells += kept_cells("g", line, row, first, after)
            else:
                cells += point_cells(spelling, "g", line, first, None)
            at, before = after, (spelling, after)
        made.append(cells + kept_cells("g", line, row, at))
    return made


class RestoredTest(unittest.TestCase):
    def test_every_position(self):
        chance = random.Random(651)
        words = (None, "w", "word", "w-w", "1w", "x.y", "v_1")
        for _ in range(500):
            text = any_program(chance, ("a", "bc", "x1", "use", "let"), lines=3)
            segments = any_segments(chance, lines=3, columns=12, most=12, words=words)
            own = Map(*[row if row[0] == "gap" else ("point",) + row[1:] for row in segments] if chance.random() < 0.7
                      else segments)
            check_made(self, restored_cells(text, own), restored(text, "g", own))

    def test_marks_side_by_side(self):
        """Tokens of one sign, each with a target of its own, with another one's, or without one."""
        chance = random.Random(652)
        for _ in range(400):
            text = "".join(chance.choice('ab1+- (') for _ in range(10))
            segments = [("point", 0, column, "s", 0, chance.randrange(2), chance.choice(("w", "w", "v", "w.")))
                        for column in range(10) if chance.random() < 0.6]
            segments += [("gap", 0, column) for column in range(10) if column not in [row[2] for row in segments]]
            own = Map(*segments)
            check_made(self, restored_cells(text, own), restored(text, "g", own))

    def test_a_shortened_program_is_the_program(self):
        chance = random.Random(653)
        for _ in range(200):
            text = any_program(chance, ("alpha", "beta", "b", "x1", "_", "use", "let", "a"))
            tool = Shortening(*chance.sample(("alpha", "b", "z"), chance.randrange(3)))
            short, own = tool(text, "p")
            again, way = restored(short, "short", own)
            self.assertEqual(text, again)
            self.assertEqual([token[2:] for token in tokens(short)], [
                way(line, column)[1:3] for _, _, line, column in tokens(again)
            ])

    def test_an_expanded_program_has_its_macros_again(self):
        text = "let two = 1 + 1\nlet f = g ( two )\nx two + f two 1two"
        made, own = Expanding()(text, "p")
        self.assertEqual("x 1+1 + g(1+1) 1+1 1 1+1", made)
        self.assertEqual("x two + f two 1 two", restored(made, "q", own)[0])

    def test_replaced_together(self):
        own = Map(("point", 0, 0, "p", 1, 2, "word"), ("gap", 0, 9), ("point", 1, 0, "p", 1, 2, "word"))
        text, way = restored("1 + (a) 7 x\n1", "g", own)
        self.assertEqual("word x\nword", text)
        self.assertEqual([
            ("point", 0, 0, "g", 0, 0), ("run", 0, 4, "g", 0, 9), ("gap", 0, 6), ("point", 1, 0, "g", 1, 0), ("gap", 1, 4),
        ], list(way.pieces()))

    def test_same_target_but_for_one_number(self):
        for one, other, expected in (
            (("p", 0, 0, "w"), ("p", 0, 0, "w"), "w"), (("p", 0, 0, "w"), ("p", 0, 1, "w"), "w w"),
            (("p", 0, 0, "w"), ("p", 1, 0, "w"), "w w"), (("p", 0, 0, "w"), ("q", 0, 0, "w"), "w w"),
            (("p", 0, 0, "w"), ("p", 0, 0, "v"), "w v"), (("p", 0, 0, "w"), ("p", 0, 0, "w."), "w+"),
            (("p", 0, 0, "w."), ("p", 0, 0, "w."), "++"),
        ):
            own = Map(("point", 0, 0) + one, ("point", 0, 1) + other)
            self.assertEqual(expected, restored("++", "g", own)[0])

    def test_another_token_between(self):
        own = Map(("point", 0, 0, "p", 0, 0, "w"), ("gap", 0, 1), ("point", 0, 2, "p", 0, 0, "w"))
        self.assertEqual("w+w", restored("1+1", "g", own)[0])
        own = Map(("point", 0, 0, "p", 0, 0, "w"), ("gap", 0, 1), ("point", 0, 4, "p", 0, 0, "w"))
        self.assertEqual("w # c", restored("1   2 # c", "g", own)[0])
        self.assertEqual("w\nw", restored("1\n1", "g", Map(("point", 0, 0, "p", 0, 0, "w"), ("point", 1, 0, "p", 0, 0, "w")))[0])

    def test_the_beginning_of_a_token_counts(self):
        own = Map(("point", 0, 1, "p", 0, 0, "w"), ("gap", 0, 3))
        self.assertEqual("abc", restored("abc", "g", own)[0])
        self.assertEqual(" w c", restored(" ab c", "g", own)[0])
        self.assertEqual("(w", restored("(b)", "g", own)[0])
        self.assertEqual("a # b", restored("a # b", "g", Map(("point", 0, 2, "p", 0, 0, "w")))[0])

    def test_needed_spaces(self):
        point = ("p", 0, 0, "w")
        for text, column, expected in (
            ("+1", 0, "w 1"), ("+a", 0, "w a"), ('+"s"', 0, 'w"s"'), ("+ 1", 0, "w 1"), ("++", 0, "w+"), ("a+", 1, "a w"),
            ("1+", 1, "1w"), ('"s"+', 3, '"s"w'), ("a +", 2, "a w"), ("a+1", 1, "a w 1"), ("1+1", 1, "1w 1"), ("+#c", 0, "w#c"),
            ("1a", 1, "1w"), ("1a", 0, "w a"),
        ):
            own = Map(("point", 0, column) + point, ("gap", 0, column + 1))
            made, way = restored(text, "g", own)
            self.assertEqual(expected, made)
            for at, sign in enumerate(made):
                self.assertEqual(sign == " " and " " not in text, way(0, at) is None)
        own = Map(("point", 0, 0, "p", 0, 0, "v"), ("point", 0, 1, "p", 0, 1, "w"))
        made, way = restored("++", "g", own)
        self.assertEqual(("v w", [
            ("run", 0, 0, "g", 0, 0), ("gap", 0, 1), ("run", 0, 2, "g", 0, 1), ("gap", 0, 3)
        ]), (made, list(way.pieces())))

    def test_words_that_are_none(self):
        for word, expected in (
            ("w", "w"), ("_", "_"), ("w" * 40, "w" * 40), ("use", "use"), ("a-b", "+"), ("a.b", "+"), ("1a", "+"), ("1", "+"),
            ("a/b", "+"), ("-", "+"),
        ):
            self.assertEqual(expected, restored("+", "g", Map(("point", 0, 0, "p", 0, 0, word)))[0])
        self.assertEqual("+", restored("+", "g", Map(("point", 0, 0, "p", 0, 0)))[0])
        self.assertEqual("+", restored("+", "g", Map())[0])

    def test_runs_with_words(self):
        own = Map(("run", 0, 0, "p", 0, 0, "w"))
        self.assertEqual("w w w w", restored("a+b 1", "g", own)[0])

    def test_points_to_the_first_token(self):
        own = Map(("point", 0, 2, "p", 7, 7, "word"), ("gap", 0, 6))
        made, way = restored("x 1  +  y", "g", own)
        self.assertEqual("x word  y", made)
        self.assertEqual([("g", 0, 2, None)] * 4, [way(0, column) for column in (2, 3, 4, 5)])
        self.assertEqual([("g", 0, 6, None), ("g", 0, 7, None), ("g", 0, 8, None), None],
                         [way(0, column) for column in (6, 7, 8, 9)])

    def test_composed_maps(self):
        text = "let sum = first + second\nresult = sum * sum # c"
        made, own = Stripping()(text, "p")
        again, way = restored(made, "q", own)
        self.assertEqual((made, Tool()(made, "q")[1]), (again, way))

    def test_closed_maps_and_maps_far_out(self):
        shut = ClosedMap((1, 1), (("point", 0, 0, "p", FAR, FAR, "w"),))
        self.assertEqual("w b\n+", restored("+ b\n+", "g", shut)[0])
        wide = Map.unbounded((("point", 0, 0, "p", 10 ** 40, 1, "w"), ("point", 10 ** 30, 0, "p", 0, 0, "w")))
        self.assertEqual("w\n+", restored("+\n+", "g", wide)[0])

    def test_too_long(self):
        own = Map(("point", 0, 0, "p", 0, 0, "w" * 40), ("gap", 0, 1))
        text = "+" * 19961
        self.assertEqual(20000, len(restored(text, "g", own)[0]))
        fails(self, TooLarge, "limit", 20000, restored, text + "+", "g", own)
        fails(self, TooLarge, "limit", 20000, restored, "+a" + "+" * 19958 + "\n", "g", own)

    def test_wrong_values(self):
        for value in NO_TEXTS + ("+" * 20001,):
            fails(self, BadProgram, "spot", None, restored, value, "g", Map())
        for value in NO_NAMES:
            fails(self, BadName, "given", value, restored, "a", value, Map())
        for value in NO_MAPS:
            fails(self, BadMap, "given", value, restored, "a", "g", value)
        fails(self, BadProgram, "spot", (1, 2), restored, 'a\nb "', "g", Map())

    def test_several_at_once(self):
        fails(self, BadProgram, "spot", None, restored, None, None, None)
        fails(self, BadName, "given", None, restored, '"', None, None)
        fails(self, BadMap, "given", None, restored, '"', "g", None)
        self.assertEqual("w", restored(map_here=Map(("point", 0, 0, "p", 0, 0, "w")), source="g", text="+")[0])


if __name__ == "__main__":
    unittest.main()
