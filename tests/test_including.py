"""mapstack.tools: Including, point [66]."""

import random
import unittest

from mapstack.errors import BadMap, BadName, BadProgram, NoText, Ring, TooLarge
from mapstack.tokens import tokens
from mapstack.tools import Including
from tests.progcases import any_program, check_made, check_runs, kept_cells, row_tokens, text_of
from tests.support import NO_NAMES, NO_TEXTS, fails

LONG = "w" * 41


def used(row):
    """The name of a use line, or None."""
    found = [item[:2] for item in row_tokens(row)[0]]
    if len(found) == 2 and found[0] == ("word", "use") and found[1][0] == "word":
        return found[1][1]
    return None


def included_cells(source, text, texts, seen=None, is_first=True):
    """The words of [66]; with a list of names that are seen each text comes once."""
    rows = text.split("\n")
    if not is_first and rows[-1] == "":
        rows.pop()
    made = []
    for line, row in enumerate(rows):
        name = used(row)
        if name is None:
            made.append(kept_cells(source, line, row))
        elif seen is None or name not in seen:
            made += included_cells(name, texts[name], texts, seen, False)
            if seen is not None:
                seen.append(name)
    return made


def any_texts(chance):
    """Texts that use only later ones, so that there is no ring."""
    names = ["a", "b", "c_1", "d"]
    texts = {}
    for at, name in enumerate(names):
        rows = []
        for _ in range(chance.randrange(4)):
            if chance.random() < 0.5 and names[at + 1:]:
                rows.append(chance.choice(("use %s", "  use   %s # c", "use %s ")) % chance.choice(names[at + 1:]))
            else:
                rows.append(any_program(chance, ("x", "use", "let"), lines=1, most=3).replace("use x", "x"))
        if any(used(row) not in names + [None] for row in rows):
            rows = []
        texts[name] = "\n".join(rows) + chance.choice(("", "\n", "\n\n"))
    items = list(texts.items())
    chance.shuffle(items)
    return dict(items)


def any_uses(chance, names):
    """A text of few use lines, which may name anything."""
    return "\n".join(chance.choice(("x", f"use {chance.choice(names)}")) for _ in range(chance.randrange(4)))


def first_refusal(text, texts, path):
    """What is met first: the error and its value, or None; each use line is followed, also those of texts met before."""
    for name in map(used, text.split("\n")):
        if name is not None:
            if name in path:
                return Ring, path + (name,)
            if name not in texts:
                return NoText, name
            found = first_refusal(texts[name], texts, path + (name,))
            if found is not None:
                return found
    return None


class IncludingTest(unittest.TestCase):
    def test_every_position(self):
        chance = random.Random(661)
        for _ in range(300):
            texts = any_texts(chance)
            text = "\n".join(chance.choice(("use a", "use b", "use c_1", " use d # x", "x + y", "", "use", "use 1", "use a b"))
                             for _ in range(chance.randrange(1, 6)))
            check_made(self, included_cells("p", text, texts) or [[]], Including(texts)(text, "p"))
            once = Including(texts, once=True)(text, "p")
            check_made(self, included_cells("p", text, texts, []) or [[]], once)
            check_runs(self, once, {**texts, "p": text})

    def test_last_empty_lines(self):
        for inner, expected in (
            ("", "x\ny"), ("\n", "x\n\ny"), ("a", "x\na\ny"), ("a\n", "x\na\ny"), ("a\n\n", "x\na\n\ny"), ("\na", "x\n\na\ny"),
            (" ", "x\n \ny"), ("a\n ", "x\na\n \ny"), ("# c", "x\n# c\ny"),
        ):
            self.assertEqual(expected, Including({"t": inner}).new_text("x\nuse t\ny"))
        for text, inner, expected in (
            ("use t", "", ""), ("use t\n", "", ""), ("\nuse t", "", ""), ("use t", "a\n", "a"), ("use t\n", "a\n", "a\n"),
            ("use t\nuse t", "", ""), ("use t\n\n", "a", "a\n\n"), ("a\n", "", "a\n"),
        ):
            self.assertEqual(expected, Including({"t": inner}).new_text(text))

    def test_use_lines(self):
        tool = Including({"t": "in"})
        for row in ("use t", "  use t", "use   t  ", "use t # c", "use t#use t"):
            self.assertEqual("in", tool.new_text(row))
        for row in ("use", "use t t", "use 1", "use t+", "+use t", 'use "t"', "# use t", "Use t", "uset", "t use", '"use t"',
                    "let t = use t", "use t1x y"):
            self.assertEqual(row, tool.new_text(row))
        self.assertEqual("in\nx", Including({"use": "in"}).new_text("use use\nx"))

    def test_nested_ones(self):
        texts = {"a": "a0\nuse b\na2\n", "b": "b0\nuse c", "c": "\nc1\n"}
        text, made = Including(texts)("use a\nx\n use b", "p")
        self.assertEqual("a0\nb0\n\nc1\na2\nx\nb0\n\nc1", text)
        self.assertEqual(
            [("a", 0, 1, None), ("b", 0, 1, None), None, ("c", 1, 1, None), ("a", 2, 1, None), None, ("b", 0, 1, None)],
            [made(line, 1) for line in range(7)],
        )
        self.assertEqual(("a", "b", "c", "p"), made.sources())

    def test_once(self):
        texts = {"a": "a0\nuse b", "b": "b0\n", "c": "use b\nuse a\nc2"}
        self.assertEqual("a0\nb0\nx", Including(texts, once=True).new_text("use a\nuse b\nx\nuse a"))
        self.assertEqual("b0\na0\nc2", Including(texts, once=True).new_text("use c\nuse a\nuse c"))
        self.assertEqual("a0\nb0\nb0\nx\na0\nb0", Including(texts, once=False).new_text("use a\nuse b\nx\nuse a"))
        # Each call begins anew.
        tool = Including(texts, once=True)
        self.assertEqual(tool("use b", "p"), tool("use b", "p"))
        self.assertEqual("b0", tool.new_text("use b"))

    def test_rings(self):
        texts = {"a": "x\nuse b\n", "b": "use c", "c": "use b\nuse a", "own": "use own", "fine": "", "main": "use p",
                 "q": "use fine\nuse main"}
        for once in (False, True):
            tool = Including(texts, once=once)
            for text, path in (
                ("use a", ("p", "a", "b", "c", "b")), ("use b", ("p", "b", "c", "b")), ("use c", ("p", "c", "b", "c")),
                ("use own", ("p", "own", "own")), ("use fine\nuse fine\nuse own", ("p", "own", "own")),
            ):
                fails(self, Ring, "path", path, tool, text, "p")
                fails(self, Ring, "path", ("-",) + path[1:], tool.new_text, text)
        # The program itself is the first text.
        both = {**texts, "p": "x"}
        fails(self, Ring, "path", ("p", "p"), Including(both), "use p", "p")
        fails(self, Ring, "path", ("p", "q", "main", "p"), Including(both), "use q", "p")
        fails(self, Ring, "path", ("p", "main", "p"), Including(both, once=True), "use fine\nuse main", "p")
        self.assertEqual("x", Including(both).new_text("use p"))
        self.assertEqual("x\nx", Including({"a": "use c", "b": "use c", "c": "x"}).new_text("use a\nuse b"))

    def test_program_that_names_itself_without_a_text_of_its_name(self):
        for once in (False, True):
            for texts, text, path in (
                ({}, "use p", ("p", "p")),
                ({}, "x\n  use  p # c", ("p", "p")),
                ({"c": "use d\n", "d": ""}, "use c\nuse p", ("p", "p")),
                ({"b": "use p"}, "use b", ("p", "b", "p")),
                ({"b": "x\nuse c\n", "c": "use p"}, "x\nuse b", ("p", "b", "c", "p")),
                # The one that is met first is told.
                ({"b": "use p\nuse none"}, "use b\nuse p", ("p", "b", "p")),
                ({"b": "use b"}, "use p\nuse b\nuse none", ("p", "p")),
            ):
                fails(self, Ring, "path", path, Including(texts, once=once), text, "p")
            tool = Including({"b": "use none\nuse p"}, once=once)
            fails(self, NoText, "given", "none", tool, "use b\nuse p", "p")
            fails(self, BadProgram, "spot", (1, 0), tool, 'use p\n"', "p")
            # By another source the same text names nothing of its own.
            self.assertEqual("x", Including({"b": "use p", "p": "x"}, once=once)("use b", "q")[0])

    def test_first_refusal_by_the_words(self):
        chance = random.Random(662)
        counts = {NoText: 0, Ring: 0, None: 0}
        names = ["a", "b", "c", "p", "q"]
        for _ in range(600):
            texts = {name: any_uses(chance, names) for name in chance.sample(names, chance.randrange(5))}
            text = any_uses(chance, names)
            error, worth = first_refusal(text, texts, ("p",)) or (None, None)
            counts[error] += 1
            for once in (False, True):
                tool = Including(texts, once=once)
                if error is None:
                    tool(text, "p")
                else:
                    fails(self, error, {NoText: "given", Ring: "path"}[error], worth, tool, text, "p")
        self.assertLess(50, min(counts.values()), counts)

    def test_no_text(self):
        texts = {"a": "use b\n", "c": "use a"}
        fails(self, NoText, "given", "b", Including(texts), "use a", "p")
        fails(self, NoText, "given", "b", Including(texts), "x\nuse c\nuse d", "p")
        fails(self, NoText, "given", "A", Including(texts), "use A", "p")
        fails(self, NoText, "given", "p", Including(texts), "use p", "q")
        # A source that no word can be, and one that only begins like the word, are not named.
        fails(self, NoText, "given", "p", Including(texts), "use p", "p/1")
        fails(self, NoText, "given", "p", Including({"b": "use p"}), "use b", "p/1")
        fails(self, NoText, "given", "p", Including({"b": "use p"}).new_text, "use b")
        self.assertEqual("x", Including(texts).new_text("x"))

    def test_errors_as_they_are_met(self):
        texts = {"bad": 'x\n "', "gone": "use none\nuse bad", "ring": "use ring", "long": f"use bad\n{LONG}",
                 "late": "use none\n\"", "fine": "x"}
        for once in (False, True):
            tool = Including(texts, once=once)
            for text, error, field, worth in (
                ("use bad", BadProgram, "spot", (1, 1)),
                ("use gone\nuse bad", NoText, "given", "none"),
                ("use bad\nuse gone", BadProgram, "spot", (1, 1)),
                ("use ring\nuse bad", Ring, "path", ("p", "ring", "ring")),
                ("use bad\nuse ring", BadProgram, "spot", (1, 1)),
                # Each text is read whole, and then its use lines are followed, each to its end.
                ('use gone\n"', BadProgram, "spot", (1, 0)),
                ("use long", BadProgram, "spot", (1, 0)),
                ("use late", BadProgram, "spot", (1, 0)),
                ("use fine\nuse gone\nuse ring", NoText, "given", "none"),
                ("use fine\nuse fine\nuse ring\nuse gone", Ring, "path", ("p", "ring", "ring")),
            ):
                fails(self, error, field, worth, tool, text, "p")

    def test_too_long(self):
        texts = {"a": "+" * 9999, "b": "+" * 9999 + "\n", "c": "+" * 20000, "d": "use c\nuse none", "e": "use c\nuse c"}
        tool = Including(texts)
        self.assertEqual(20000, len(tool.new_text("use a\nuse b\n")))
        self.assertEqual(20000, len(tool.new_text("use a\n\nuse b")))
        self.assertEqual(20000, len(tool.new_text("use c")))
        for text in ("use a\n\nuse b\n", "use c\n", "use c\nuse c", "use e", "+\nuse a\nuse b"):
            fails(self, TooLarge, "limit", 20000, tool, text, "p")
        # All other errors come first.
        fails(self, NoText, "given", "none", tool, "use c\nuse c\nuse none", "p")
        fails(self, NoText, "given", "none", tool, "use c\nuse d", "p")
        once = Including(texts, once=True)
        self.assertEqual(20000, len(once.new_text("use c\nuse c\nuse e")))
        self.assertEqual("+" * 20000, once.new_text("use e"))

    def test_very_many_uses(self):
        """Texts that name others twice soon have more lines, or uses, than could be made one by one."""
        names = ["t" + chr(97 + n // 26) + chr(97 + n % 26) for n in range(100)]
        doubling = {name: f"use {after}\nuse {after}\n" for name, after in zip(names, names[1:])}
        text = f"use {names[0]}"
        self.assertEqual("", Including({**doubling, names[-1]: ""}).new_text(text))
        fails(self, TooLarge, "limit", 20000, Including({**doubling, names[-1]: "\n"}), text, "p")
        fails(self, NoText, "given", "none", Including({**doubling, names[-1]: "x\nuse none"}), text, "p")
        fails(self, Ring, "path", ("p",) + tuple(names) + ("taa",), Including({**doubling, names[-1]: "use taa"}), text, "p")
        self.assertEqual("x", Including({**doubling, names[-1]: "x"}, once=True).new_text(text))
        wide = {"a": "use b\n" * 3000, "b": "use c\n" * 3000, "c": ""}
        self.assertEqual("", Including(wide).new_text("use a\n" * 3000))

    def test_programs_that_are_too_long(self):
        tool = Including({"t": "+" * 20001})
        fails(self, BadProgram, "spot", None, tool, "use t", "p")
        self.assertEqual("x", tool.new_text("x"))

    def test_caller_changes_the_dict(self):
        texts = {"t": "x"}
        tool = Including(texts)
        texts["t"] = "y"
        texts["u"] = "z"
        self.assertEqual("x", tool.new_text("use t"))
        fails(self, NoText, "given", "u", tool, "use u", "p")

    def test_wrong_values(self):
        wrong = [value for value in NO_NAMES if value != {}] + [["t"], (("t", ""),), {1: ""}, {"": ""}, {"a b": ""}]
        wrong += [{"t": value} for value in NO_TEXTS] + [{"t": "", "u": None}, {"t": "", None: ""}]
        wrong += [{f"t{n}": "" for n in range(101)}]
        for value in wrong:
            fails(self, BadMap, "given", value, Including, value)
            fails(self, BadMap, "given", value, Including, value, once=True)
        many = {f"t{n}": "x" for n in range(100)}
        self.assertEqual("x", Including(texts=many, once=True).new_text("use t99"))
        self.assertEqual("x", Including({"a-b/c.d": "", "9": "", "t": "x"}).new_text("use t"))
        fails(self, BadName, "given", "", Including(many), "use t1\n\"", "")
        fails(self, BadProgram, "spot", None, Including(many), None, "")
        self.assertRaises(TypeError, Including, many, True)

    def test_tokens_of_all(self):
        texts = {"a": "x y\n1 # c", "b": "use a\n(z)\n"}
        text = Including(texts).new_text("m\nuse b\nuse a")
        self.assertEqual("m x y 1 ( z ) x y 1".split(" "), [row[1] for row in tokens(text)])
        self.assertEqual("m\nx y\n1 # c\n(z)\nx y\n1 # c", text)
        self.assertEqual(text, text_of(included_cells("p", "m\nuse b\nuse a", texts)))


if __name__ == "__main__":
    unittest.main()
