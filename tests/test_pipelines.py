"""mapstack.pipelines: point [69]."""

import random
import unittest

from mapstack.composing import composed
from mapstack.errors import BadMap, BadName, BadNumber, BadProgram, NothingLeft, NoText, Ring, TooLarge
from mapstack.maps import Map
from mapstack.pipelines import Pipeline
from mapstack.tokens import tokens
from mapstack.tools import Expanding, Including, Shortening, Stripping, Tool, Wrapping
from tests.progcases import any_program
from tests.support import NO_INTEGERS, NO_NAMES, NO_TEXTS, fails

NO_TOOLS = (True, False, None, 0, 1, "", "stripped", b"", (), (Tool(),), [], [Tool()], {}, Map(), object(), tokens)
TEXT = "use t # the text\nlet sum = first + 1\nlong = first   + sum ( long )  # all"
TEXTS = {"t": "first = 2 # t\n", "u": "use t\nuse u"}


def any_tools(chance):
    every = (Tool(), Stripping(), Shortening(), Including(TEXTS), Expanding(), Wrapping(chance.randrange(1, 9)))
    return [chance.choice(every) for _ in range(chance.randrange(5))]


def steps_by_hand(text, source, tools):
    """The texts and the step maps."""
    texts, maps = [text], [None]
    for number, tool in enumerate(tools):
        name = source if number == 0 else f"{source}/{number}"
        new_text, own_map = tool(texts[-1], name)
        texts.append(new_text)
        maps.append(own_map)
    return texts, maps


def origin_by_hand(text, source, maps):
    """The last map through those in front of it, one after the other."""
    if len(maps) == 1:
        return Map.identity(source, tuple(len(line) for line in text.split("\n")))
    made = maps[-1]
    for number in range(len(maps) - 2, 0, -1):
        made = composed(made, {f"{source}/{number}": maps[number]})
    return made


class PipelineTest(unittest.TestCase):
    def check(self, made, text, source, tools):
        texts, maps = steps_by_hand(text, source, tools)
        self.assertEqual(len(tools), len(made))
        self.assertEqual(tuple(tool.TITLE for tool in tools), made.titles())
        for number in range(len(texts)):
            self.assertEqual(texts[number], made[number])
            if number > 0:
                self.assertEqual(maps[number], made.step_map(number))
        origin = origin_by_hand(text, source, maps)
        self.assertEqual(origin, made.origin_map())
        self.assertIs(Map, type(made.origin_map()))
        rows = [(spelling, origin(line, column)) for _, spelling, line, column in tokens(texts[-1])]
        self.assertEqual(rows, list(made.origins()))

    def test_random_tools(self):
        chance = random.Random(691)
        for _ in range(100):
            text = chance.choice((TEXT, any_program(chance, ("a", "b", "x1", "use"), lines=3).replace("use", "w")))
            made = Pipeline(text, "p")
            standing = []
            for _ in range(3):
                tools = any_tools(chance)
                before = made[len(made)]
                try:
                    texts, _ = steps_by_hand(text, "p", standing + tools)
                except BadProgram as error:
                    # A let line that was wrapped is none any more.
                    fails(self, BadProgram, "spot", error.spot, made.apply, *tools)
                    self.check(made, text, "p", standing)
                    continue
                self.assertEqual(texts[-1], made.tried(*tools))
                self.assertEqual(before, made[len(made)])
                self.assertEqual(texts[-1], made.apply(*tools))
                standing += tools
                self.check(made, text, "p", standing)
                if standing and chance.random() < 0.5:
                    self.assertIsNone(made.take_back())
                    standing.pop()
                    self.check(made, text, "p", standing)

    def test_all_tools(self):
        made = Pipeline(TEXT, "main.txt")
        tools = (Including(TEXTS), Expanding(), Stripping(), Shortening(), Wrapping(9))
        self.assertEqual("a=2\nb=a+a+1(b)\n", made.apply(*tools))
        self.assertEqual("first=2\nlong=first+first+1(long)\n", made[3])
        self.assertEqual("a=2\nb=a+a+1(b)\n", made[4])
        self.assertEqual([
            ("a", ("t", 0, 0, "first")), ("=", ("t", 0, 6, None)), ("2", ("t", 0, 8, None)),
            ("b", ("main.txt", 2, 0, "long")), ("=", ("main.txt", 2, 5, None)), ("a", ("main.txt", 2, 7, "first")),
            ("+", ("main.txt", 2, 15, None)), ("a", ("main.txt", 2, 17, "sum")), ("+", ("main.txt", 2, 17, "sum")),
            ("1", ("main.txt", 2, 17, "sum")), ("(", ("main.txt", 2, 21, None)), ("b", ("main.txt", 2, 23, "long")),
            (")", ("main.txt", 2, 28, None)),
        ], list(made.origins()))
        self.assertEqual(("main.txt/3",), made.step_map(4).sources())
        self.assertEqual(("main.txt",), made.step_map(1).only("main.txt").sources())
        self.assertEqual(("t", "main.txt"), made.origin_map().sources())

    def test_new_one(self):
        made = Pipeline("a\n b", "p")
        self.assertEqual((0, (), "a\n b"), (len(made), made.titles(), made[0]))
        self.assertEqual(Map.identity("p", (1, 2)), made.origin_map())
        self.assertEqual([("a", ("p", 0, 0, None)), ("b", ("p", 1, 1, None))], list(made.origins()))
        self.assertEqual(("a\n b", "a\n b"), (made.apply(), made.tried()))
        self.assertEqual(0, len(made))
        self.assertRaises(NothingLeft, made.take_back)

    def test_refused_tools_change_nothing(self):
        made = Pipeline("let a = 1\na use t\nuse none", "p")
        made.apply(Tool())
        for error, field, worth, tools in (
            (NoText, "given", "none", (Stripping(), Including(TEXTS), Stripping())),
            (BadProgram, "spot", (0, 0), (Wrapping(1), Expanding(), Including(TEXTS))),
            (NoText, "given", "none", (Expanding(), Including({}))),
        ):
            for call in (made.apply, made.tried):
                fails(self, error, field, worth, call, *tools)
                self.check(made, "let a = 1\na use t\nuse none", "p", [Tool()])
        ring = Pipeline("use u", "p")
        fails(self, Ring, "path", ("p", "u", "u"), ring.apply, Including(TEXTS))
        ring.apply(Tool())
        fails(self, Ring, "path", ("p/1", "u", "u"), ring.apply, Including(TEXTS))

    def test_no_tools_count_ahead_of_all(self):
        made = Pipeline("let", "p")
        for value in NO_TOOLS:
            for call in (made.apply, made.tried):
                fails(self, BadMap, "given", value, call, value)
                fails(self, BadMap, "given", value, call, Expanding(), value, None)
        self.assertEqual(0, len(made))

    def test_tried_changes_nothing(self):
        made = Pipeline("a  b # c", "p")
        self.assertEqual("a b\n", made.tried(Stripping()))
        self.assertEqual((0, "a  b # c", ()), (len(made), made[0], made.titles()))
        fails(self, BadNumber, "given", 1, lambda: made[1])
        self.assertEqual("a\nb\n", made.tried(Stripping(), Wrapping(1)))
        self.assertRaises(NothingLeft, made.take_back)

    def test_take_back_takes_one_tool(self):
        made = Pipeline("a  b # c", "p")
        made.apply(Stripping(), Wrapping(1))
        made.take_back()
        self.assertEqual((1, "a b\n", ("stripped",)), (len(made), made[1], made.titles()))
        self.assertEqual("b", list(made.origins())[1][0])
        self.assertEqual(("p", 0, 3, None), list(made.origins())[1][1])
        made.apply(Shortening())
        self.assertEqual(("stripped", "shortened"), made.titles())
        made.take_back(), made.take_back()
        self.assertRaises(NothingLeft, made.take_back)
        self.assertEqual("a  b # c", made[0])

    def test_what_was_told_stays(self):
        made = Pipeline("a  b", "p")
        made.apply(Stripping())
        titles, origin = made.titles(), made.origin_map()
        made.apply(Shortening())
        self.assertEqual((("stripped",), ("p", 0, 3, None)), (titles, origin(0, 2)))

    def test_wrong_numbers(self):
        made = Pipeline("a", "p")
        made.apply(Tool(), Tool())
        for value in NO_INTEGERS + (-1, 3, 10 ** 99, slice(0, 1)):
            fails(self, BadNumber, "given", value, lambda: made[value])
            fails(self, BadNumber, "given", value, made.step_map, value)
        fails(self, BadNumber, "given", 0, made.step_map, 0)
        self.assertEqual(made.step_map(2), made.step_map(n=2))
        with self.assertRaises(TypeError):
            iter(made)

    def test_wrong_programs_and_names(self):
        for value in NO_TEXTS + ("+" * 20001,):
            fails(self, BadProgram, "spot", None, Pipeline, value, "p")
        for value in NO_NAMES + ("n" * 31, "n" * 40):
            fails(self, BadName, "given", value, Pipeline, "a", value)
        fails(self, BadProgram, "spot", (1, 1), Pipeline, 'a\n "', "p")
        fails(self, BadProgram, "spot", (0, 0), Pipeline, "w" * 41, "n" * 30)
        fails(self, BadProgram, "spot", None, Pipeline, None, None)
        fails(self, BadProgram, "spot", None, Pipeline, '"' * 20001, "n" * 31)
        fails(self, BadName, "given", "n" * 31, Pipeline, '"', "n" * 31)
        self.assertEqual("let", Pipeline(source="p", text="let")[0])

    def test_longest_names(self):
        name = "n" * 30
        made = Pipeline("a b", name)
        made.apply(*[Tool()] * 120)
        self.assertEqual((name + "/119",), made.step_map(120).sources())
        self.assertEqual((name,), made.origin_map().sources())

    def test_names_of_texts_that_are_included(self):
        """A text that has the name of the program is another one, if the program is no longer read itself."""
        made = Pipeline("use p\nx", "p")
        fails(self, Ring, "path", ("p", "p"), made.apply, Including({"p": "y"}))
        made.apply(Tool(), Including({"p": "\ny"}))
        self.assertEqual([("y", ("p", 1, 0, None)), ("x", ("p", 1, 0, None))], list(made.origins()))

    def test_too_large(self):
        made = Pipeline("+\n" * 5001, "p")
        fails(self, TooLarge, "limit", 10000, made.origin_map)
        fails(self, TooLarge, "limit", 10000, lambda: list(made.origins()))
        fails(self, TooLarge, "limit", 10000, made.apply, Tool())
        long = Pipeline("+" * 20000, "p")
        fails(self, TooLarge, "limit", 20000, long.apply, Tool(), Stripping())
        self.assertEqual(0, len(long))


class FactTest(unittest.TestCase):
    def texts(self, chance):
        names = ("a", "b", "c")
        texts = {}
        for at, name in enumerate(names):
            rows = any_program(chance, ("x", "yy", "z1"), lines=4, most=3).split("\n")
            for _ in range(chance.randrange(3)):
                if names[at + 1:]:
                    rows.insert(chance.randrange(len(rows) + 1), f"  use  {chance.choice(names[at + 1:])} # c")
            texts[name] = "\n".join(rows) + chance.choice(("", "\n", "\n\n"))
        return texts

    def test_stripping_what_was_included_and_including_what_was_stripped(self):
        chance = random.Random(692)
        for _ in range(150):
            texts = self.texts(chance)
            text = "\n".join(chance.choice(("use a", "use b # c", "", "x  y", "# d", " use c ", "q"))
                             for _ in range(chance.randrange(1, 6)))
            for once in (False, True):
                made = Pipeline(text, "p")
                made.apply(Including(texts, once=once), Stripping())
                stripped = {name: Stripping()(row, name) for name, row in texts.items()}
                stripped["p"] = Stripping()(text, "p")
                other = Including({name: row[0] for name, row in stripped.items() if name != "p"}, once=once)
                other_text, other_map = other(stripped["p"][0], "p")
                self.assertEqual(made[2], other_text)
                way = composed(other_map, {name: row[1] for name, row in stripped.items()})
                self.assertEqual(made.origin_map(), way)


if __name__ == "__main__":
    unittest.main()
