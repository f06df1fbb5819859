"""mapstack.builders: points [47] to [50]."""

import random
import unittest

from mapstack.builders import Builder, MarkedBuilder
from mapstack.bundles import Bundle
from mapstack.errors import BadBuilder, BadName, BadNumber, BadPlace, BadText, NoPlace, NothingLeft, TooLarge
from mapstack.maps import Map
from tests.mapcases import FAR
from tests.support import NO_INTEGERS, NO_NAMES, NO_TEXTS, fails, places_of

NO_BUILDERS = (True, False, None, 0, "", "ab", b"", (), [], {}, ("a", Map()), Map(), Bundle(), Builder, object())
TEXTS = ("", "a", "bc", " d", "\n", "\n\n", "e\n", "\nf", "gh\n\n  i\nj", "k\n\n")
NAMES = ("m", "n", "o.p/-_1")


class Model:
    """A marked builder, character by character: pairs of a character and its target, and the marks as they were made."""

    def __init__(self):
        self.signs, self.levels, self.marks, self.past = [], (), [], []

    def keep(self):
        self.past.append((list(self.signs), self.levels, list(self.marks)))

    def undo(self):
        self.signs, self.levels, self.marks = self.past.pop()

    def text(self):
        return "".join(sign for sign, _ in self.signs)

    def column(self):
        return len(self.text().split("\n")[-1])

    def end(self):
        return self.text().count("\n"), self.column()

    def add(self, text, target, is_run):
        """The words of [47] and [48]; the place of the first character."""
        self.keep()
        first = None
        for sign in text:
            if self.column() == 0 and sign != "\n":
                self.signs += [(" ", None)] * sum(self.levels)
            first = first or self.end()
            self.signs.append((sign, target))
            if target and is_run:
                source, line, column, word = target
                target = (source, line + 1, 0, word) if sign == "\n" else (source, line, column + 1, word)
        return first or self.end()

    def mark(self, name):
        self.keep()
        self.marks = [row for row in self.marks if row[0] != name] + [(name, len(self.signs))]

    def put(self, index, signs):
        self.keep()
        self.signs[index:index] = signs

    def put_in(self, name, signs):
        """The words of [49]."""
        at = [row[0] for row in self.marks].index(name)
        index = self.marks[at][1]
        self.put(index, signs)
        rows = []
        for number, (own, place) in enumerate(self.marks):
            stays = place < index or (place == index and number < at)
            rows.append((own, place if stays else place + len(signs)))
        self.marks = rows

    def targets(self):
        """The target of each place in the text that is no line feed and not the end."""
        return {
            place: self.signs[index][1] for place, index in places_of(self.text())
            if index < len(self.signs) and self.signs[index][0] != "\n"
        }


def map_targets(own_map, text):
    """What a map tells at the places of a text and some columns behind each line, on some lines more."""
    lines = text.split("\n") + ["", ""]
    return {(line, column): own_map(line, column) for line, row in enumerate(lines) for column in range(len(row) + 3)}


class ModelTest(unittest.TestCase):
    def check_state(self, builder, model):
        text, own_map = builder.as_part()
        self.assertEqual(model.text(), text)
        self.assertEqual((text, own_map), (builder.whole_text(), builder.whole_map()))
        self.assertIs(Map, own_map.__class__)
        targets = model.targets()
        expected = {place: targets.get(place) for place in map_targets(own_map, text)}
        self.assertEqual(expected, map_targets(own_map, text))
        self.assertEqual(own_map, own_map.closed(tuple(len(line) for line in text.split("\n"))))
        self.assertEqual((model.levels, len(model.past)), (builder.levels, builder.step_count()))
        self.assertEqual((len(text), bool(text)), (len(builder), bool(builder)))
        if isinstance(builder, MarkedBuilder):
            self.assertEqual(tuple(name for name, _ in model.marks), builder.marks())
            places = [place for place, _ in places_of(text)]
            for name, index in model.marks:
                self.assertEqual(places[index], builder.place_of(name))

    def any_step(self, chance, builder, model, others):
        kind = chance.choice((
            "plain", "plain", "call", "copied", "copied", "pointed", "deeper", "flatter", "added", "undo", "mark", "mark",
            "put_in", "put_in",
        ))
        text, word = chance.choice(TEXTS), chance.choice((None, "w"))
        target = (chance.choice("st"), chance.randrange(3), chance.randrange(5), word)
        if kind == "plain":
            self.assertEqual(model.add(text, None, False), builder.plain(text))
        elif kind == "call":
            model.add(text, None, False)
            self.assertIs(builder, builder(text))
        elif kind == "copied":
            self.assertEqual(model.add(text, target, True), builder.copied(text, *target[:3], word=word))
        elif kind == "pointed":
            self.assertEqual(model.add(text, target, False), builder.pointed(text, *target[:3], word=word))
        elif kind == "deeper":
            spaces = chance.choice((0, 1, 2, 3))
            model.keep()
            model.levels += (spaces,)
            self.assertIsNone(builder.deeper(spaces))
        elif kind == "flatter" and model.levels:
            model.keep()
            model.levels = model.levels[:-1]
            self.assertIsNone(builder.flatter())
        elif kind == "undo" and model.past:
            model.undo()
            self.assertIsNone(builder.undo())
        else:
            self.any_other_step(chance, builder, model, others, kind)

    def any_other_step(self, chance, builder, model, others, kind):
        other, other_model = chance.choice(others + [(builder, model)])
        is_marked, name = isinstance(builder, MarkedBuilder), chance.choice(NAMES)
        if len(model.signs) + len(other_model.signs) > 150:
            return
        if kind == "added":
            model.put(len(model.signs), list(other_model.signs))
            self.assertIsNone(builder.added(other))
        elif kind == "mark" and is_marked:
            model.mark(name)
            self.assertIsNone(builder.mark(name))
        elif kind == "put_in" and is_marked and name in dict(model.marks):
            model.put_in(name, list(other_model.signs))
            self.assertIsNone(builder.put_in(name, other))

    def test_rows_of_steps_and_their_undoing(self):
        chance = random.Random(121)
        others = [(Builder(), Model())]
        for number in range(120):
            kind = chance.choice((Builder, MarkedBuilder, MarkedBuilder))
            builder, model = kind(), Model()
            for _ in range(25):
                self.any_step(chance, builder, model, others[-6:])
                self.check_state(builder, model)
            copied = builder.copy()
            self.assertIs(kind, copied.__class__)
            if number % 3 == 0:
                while model.past:
                    model.undo()
                    builder.undo()
                    self.check_state(builder, model)
                self.assertEqual(Builder(), builder)
                with self.assertRaises(NothingLeft):
                    builder.undo()
            else:
                others.append((builder, model))
            while copied.step_count():
                copied.undo()
            self.assertEqual(("", ()), (copied.whole_text(), copied.levels))

    def test_the_map_is_that_of_the_bundle_of_its_pieces(self):
        chance = random.Random(122)
        for _ in range(150):
            builder, parts = Builder(), []
            for _ in range(chance.randrange(7)):
                text, word = chance.choice(TEXTS), chance.choice((None, "w"))
                lead = ("s", chance.randrange(3), chance.randrange(5))
                words = () if word is None else (word,)
                lines = range(text.count("\n") + 1)
                kind = chance.choice(("plain", "copied", "pointed"))
                if kind == "plain":
                    builder.plain(text)
                    own_map = Map()
                elif kind == "copied":
                    builder.copied(text, *lead, word=word)
                    own_map = Map(*[
                        ("run", line, 0, "s", lead[1] + line, lead[2] if line == 0 else 0) + words for line in lines
                    ])
                else:
                    builder.pointed(text, *lead, word=word)
                    own_map = Map(*[("point", line, 0) + lead + words for line in lines])
                parts.append((text, own_map))
            bundle = Bundle(*parts)
            lengths = tuple(len(line) for line in bundle.whole_text().split("\n"))
            self.assertEqual((bundle.whole_text(), bundle.whole_map().closed(lengths)), builder.as_part())


class PiecesTest(unittest.TestCase):
    def test_copied_and_pointed(self):
        builder = Builder()
        self.assertEqual((0, 0), builder.plain("x "))
        self.assertEqual((0, 2), builder.copied("ab\ncd\n", "s", 3, 7, word="w"))
        self.assertEqual((2, 0), builder.pointed("ef\ng", "t", 1, 1))
        self.assertEqual("x ab\ncd\nef\ng", builder.whole_text())
        self.assertEqual([
            ("run", 0, 2, "s", 3, 7, "w"), ("gap", 0, 4), ("run", 1, 0, "s", 4, 0, "w"), ("gap", 1, 2),
            ("point", 2, 0, "t", 1, 1), ("gap", 2, 2), ("run", 3, 0, "t", 1, 1), ("gap", 3, 1),
        ], list(builder.whole_map().pieces()))

    def test_far_out(self):
        builder = Builder()
        builder.copied("ab\nc", "s", FAR, FAR)
        self.assertEqual(("s", FAR, FAR + 1, None), builder.whole_map()(0, 1))
        self.assertEqual(("s", FAR + 1, 0, None), builder.whole_map()(1, 0))

    def test_empty_builder(self):
        for builder in (Builder(), MarkedBuilder()):
            self.assertEqual(("", Map()), builder.as_part())
            self.assertEqual((0, False, (), 0), (len(builder), bool(builder), builder.levels, builder.step_count()))

    def test_refused_pieces(self):
        builder = MarkedBuilder()
        for value in NO_TEXTS:
            fails(self, BadText, "place_index", None, builder.plain, value)
            fails(self, BadText, "place_index", None, builder, value)
        for call in (builder.copied, builder.pointed):
            for value in NO_TEXTS:
                fails(self, BadText, "place_index", None, call, value, "", -1, -1, word="")
            for value in NO_NAMES:
                fails(self, BadName, "given", value, call, "a", value, -1, -1, word="")
                if value is not None:
                    fails(self, BadName, "given", value, call, "a", "s", 0, 0, word=value)
            for value in NO_INTEGERS + (-1, FAR + 1, 10 ** 99):
                fails(self, BadPlace, "given", (value, 0), call, "a", "s", value, 0, word="")
                fails(self, BadPlace, "given", (0, value), call, "a", "s", 0, value, word="")
            with self.assertRaises(TypeError):
                call("a", "s", 0, 0, "w")
        self.assertEqual((0, ""), (builder.step_count(), builder.whole_text()))

    def test_calls_by_name(self):
        builder = MarkedBuilder()
        builder.plain(text="a")
        builder.copied(column=1, line=2, source="s", text="b", word="w")
        builder.pointed(column=1, line=2, source="s", text="c")
        builder.deeper(spaces=3)
        self.assertIs(builder, builder(text="d"))
        builder.mark(name="m")
        builder.added(other=builder)
        builder.put_in(other=builder, name="m")
        self.assertEqual("abcd" * 4, builder.whole_text())
        self.assertEqual((0, 12), builder.place_of(name="m"))


class IndentationTest(unittest.TestCase):
    def test_levels(self):
        builder = Builder()
        builder.deeper()
        self.assertEqual((0, 2), builder.plain("a\n\nb"))
        builder.deeper(3)
        self.assertEqual((2, 3), builder.plain("c\nd\n"))
        self.assertEqual("  a\n\n  bc\n     d\n", builder.whole_text())
        self.assertEqual((4, 0), builder.plain("\n"))
        builder.flatter()
        self.assertEqual((5, 2), builder.plain(" e"))
        self.assertEqual("  a\n\n  bc\n     d\n\n   e", builder.whole_text())
        self.assertEqual((2,), builder.levels)
        builder.flatter()
        builder.plain("\nf")
        self.assertTrue(builder.whole_text().endswith("e\nf"))

    def test_indentation_leads_to_nothing_and_the_piece_goes_on(self):
        builder = Builder()
        builder.deeper(2)
        builder.deeper(0)
        builder.deeper(1)
        self.assertEqual((0, 3), builder.copied("ab\n\ncd", "s", 5, 5))
        self.assertEqual("   ab\n\n   cd", builder.whole_text())
        self.assertEqual([
            ("run", 0, 3, "s", 5, 5), ("gap", 0, 5), ("run", 2, 3, "s", 7, 0), ("gap", 2, 5),
        ], list(builder.whole_map().pieces()))
        self.assertEqual((2, 0, 1), builder.levels)

    def test_added_text_is_not_indented(self):
        inner = Builder()
        inner.deeper(1)
        inner.copied("a\nb\n", "s", 0, 0)
        builder = Builder()
        builder.deeper(4)
        builder.added(inner)
        builder.plain("c")
        self.assertEqual(" a\n b\n    c", builder.whole_text())
        self.assertEqual((4,), builder.levels)
        self.assertEqual(("s", 1, 0, None), builder.whole_map()(1, 1))

    def test_added_to_itself(self):
        builder = Builder()
        builder.deeper(1)
        builder.copied("a\n", "s", 2, 2)
        builder.added(builder)
        self.assertEqual(" a\n a\n", builder.whole_text())
        self.assertEqual(builder.whole_map()[0], tuple((row[0], 0) + row[2:] for row in builder.whole_map()[1]))
        builder.undo()
        self.assertEqual((" a\n", 2), (builder.whole_text(), builder.step_count()))

    def test_numbers(self):
        builder = Builder()
        for value in NO_INTEGERS + (-1, 101, 10 ** 99):
            fails(self, BadNumber, "given", value, builder.deeper, value)
        with self.assertRaises(NothingLeft):
            builder.flatter()
        self.assertEqual(0, builder.step_count())
        builder.deeper(100)
        builder.deeper(0)
        self.assertEqual(((100, 0), 2), (builder.levels, builder.step_count()))
        self.assertEqual((0, 100), builder.plain("x"))

    def test_refused_builders(self):
        for value in NO_BUILDERS:
            for builder in (Builder(), MarkedBuilder()):
                fails(self, BadBuilder, "given", value, builder.added, value)
                self.assertEqual(0, builder.step_count())


class MarksTest(unittest.TestCase):
    def test_marks_at_one_position_in_several_orders(self):
        inner = Builder()("xy")
        for order in (("m", "n", "o"), ("o", "m", "n"), ("n", "o", "m")):
            for at in range(3):
                builder = MarkedBuilder()
                builder("a")
                for name in order:
                    builder.mark(name)
                builder("b")
                builder.put_in(order[at], inner)
                self.assertEqual("axyb", builder.whole_text())
                self.assertEqual(order, builder.marks())
                columns = [builder.place_of(name)[1] for name in order]
                self.assertEqual([1] * at + [3] * (3 - at), columns)

    def test_a_used_name_is_made_anew(self):
        builder = MarkedBuilder()
        builder.mark("m")
        builder.mark("n")
        builder.mark("m")
        self.assertEqual(("n", "m"), builder.marks())
        builder.put_in("m", Builder()("x"))
        self.assertEqual([(0, 0), (0, 1)], [builder.place_of("n"), builder.place_of("m")])
        builder.mark("n")
        self.assertEqual((("m", "n"), (0, 1)), (builder.marks(), builder.place_of("n")))
        builder.undo()
        self.assertEqual((("n", "m"), (0, 0)), (builder.marks(), builder.place_of("n")))

    def test_marks_behind_move_and_others_stay(self):
        builder = MarkedBuilder()
        for name in "abc":
            builder.mark(name)
            builder(name + "\n")
        builder.put_in("b", Builder()("x\ny"))
        self.assertEqual("a\nx\nyb\nc\n", builder.whole_text())
        self.assertEqual([(0, 0), (2, 1), (3, 0)], [builder.place_of(name) for name in "abc"])
        builder.put_in("a", Builder()(""))
        self.assertEqual((8, "a\nx\nyb\nc\n"), (builder.step_count(), builder.whole_text()))

    def test_put_in_without_indentation_and_leads_where_it_led(self):
        inner = MarkedBuilder()
        inner.mark("inner")
        inner.copied("p\nq", "t", 4, 4, word="w")
        builder = MarkedBuilder()
        builder.deeper(3)
        builder.copied("ab", "s", 0, 0)
        builder.mark("m")
        builder.copied("cd", "s", 0, 2)
        builder.put_in("m", inner)
        self.assertEqual("   abp\nqcd", builder.whole_text())
        self.assertEqual([
            ("run", 0, 3, "s", 0, 0), ("run", 0, 5, "t", 4, 4, "w"), ("gap", 0, 6), ("run", 1, 0, "t", 5, 0, "w"),
            ("run", 1, 1, "s", 0, 2), ("gap", 1, 3),
        ], list(builder.whole_map().pieces()))
        self.assertEqual(("m",), builder.marks())

    def test_put_in_in_the_middle_of_a_piece(self):
        builder = MarkedBuilder()
        builder.mark("m")
        inner = MarkedBuilder()
        inner.copied("ab", "s", 1, 1)
        inner.mark("n")
        inner.copied("cd\nef", "s", 1, 3)
        builder.put_in("m", inner)
        inner.put_in("n", Builder()("X"))
        self.assertEqual([("run", 0, 0, "s", 1, 1), ("gap", 0, 4), ("run", 1, 0, "s", 2, 0), ("gap", 1, 2)], list(
            builder.whole_map().pieces()
        ))
        self.assertEqual("abXcd\nef", inner.whole_text())
        inner.put_in("n", inner)
        self.assertEqual("abXabXcd\nefcd\nef", inner.whole_text())
        self.assertEqual(("s", 1, 4, None), inner.whole_map()(1, 3))
        inner.undo()
        inner.undo()
        self.assertEqual(inner.as_part(), builder.as_part())

    def test_into_itself(self):
        builder = MarkedBuilder()
        builder("a")
        builder.mark("m")
        builder("b")
        builder.put_in("m", builder)
        self.assertEqual(("aabb", (0, 3)), (builder.whole_text(), builder.place_of("m")))
        builder.undo()
        self.assertEqual(("ab", (0, 1)), (builder.whole_text(), builder.place_of("m")))

    def test_marks_of_what_is_added_stay_behind(self):
        inner = MarkedBuilder()
        inner.mark("m")
        builder = MarkedBuilder()
        builder.added(inner)
        self.assertEqual((), builder.marks())

    def test_refused(self):
        builder = MarkedBuilder()
        builder.mark("m")
        for value in NO_NAMES:
            fails(self, BadName, "given", value, builder.mark, value)
        for value in NO_NAMES + ("n", "M"):
            fails(self, NoPlace, "given", value, builder.place_of, value)
            fails(self, NoPlace, "given", value, builder.put_in, value, None)
        for value in NO_BUILDERS:
            fails(self, BadBuilder, "given", value, builder.put_in, "m", value)
        self.assertEqual((1, ("m",)), (builder.step_count(), builder.marks()))


class StepsTest(unittest.TestCase):
    def test_what_is_a_step(self):
        builder = MarkedBuilder()
        calls = [
            lambda: builder.plain(""), lambda: builder(""), lambda: builder.copied("", "s", 0, 0),
            lambda: builder.pointed("", "s", 0, 0), lambda: builder.deeper(0), lambda: builder.flatter(),
            lambda: builder.added(Builder()), lambda: builder.mark("m"), lambda: builder.mark("m"),
            lambda: builder.put_in("m", Builder()),
        ]
        for number, call in enumerate(calls):
            call()
            self.assertEqual(number + 1, builder.step_count())
        builder.place_of("m"), builder.marks(), builder.as_part(), builder.copy(), len(builder), builder.levels
        self.assertEqual(len(calls), builder.step_count())
        for number in range(len(calls)):
            builder.undo()
            self.assertEqual(len(calls) - number - 1, builder.step_count())
        with self.assertRaises(NothingLeft):
            builder.undo()

    def test_copies_are_independent(self):
        builder = MarkedBuilder()
        builder.deeper(1)
        builder.copied("ab\n", "s", 0, 0)
        builder.mark("m")
        other = builder.copy()
        self.assertEqual((3, ("m",), (1,)), (other.step_count(), other.marks(), other.levels))
        self.assertEqual(builder, other)
        other("x")
        other.put_in("m", builder)
        other.mark("n")
        other.flatter()
        self.assertEqual((" ab\n", ("m",), (1,), 3), (
            builder.whole_text(), builder.marks(), builder.levels, builder.step_count()
        ))
        builder.undo()
        builder.undo()
        self.assertEqual((" ab\n ab\n x", ("m", "n")), (other.whole_text(), other.marks()))
        for _ in range(4):
            other.undo()
        self.assertEqual((" ab\n", (1, 0)), (other.whole_text(), other.place_of("m")))
        self.assertIs(Builder, Builder().copy().__class__)


class EqualityTest(unittest.TestCase):
    def test_by_texts_maps_and_levels(self):
        def made(*rows, kind=Builder, levels=()):
            builder = kind()
            for row in rows:
                builder.copied(*row)
            for spaces in levels:
                builder.deeper(spaces)
            return builder
        one = made(("ab", "s", 0, 0))
        self.assertEqual(one, made(("a", "s", 0, 0), ("b", "s", 0, 1)))
        self.assertEqual(one, made(("ab", "s", 0, 0), kind=MarkedBuilder))
        self.assertNotEqual(one, made(("ab", "s", 0, 1)))
        self.assertNotEqual(one, made(("ac", "s", 0, 0)))
        self.assertNotEqual(one, made(("ab", "s", 0, 0), levels=(0,)))
        self.assertNotEqual(made(levels=(1, 2)), made(levels=(2, 1)))
        marked = made(("ab", "s", 0, 0), kind=MarkedBuilder)
        marked.mark("m")
        self.assertEqual(one, marked)
        for value in NO_BUILDERS:
            self.assertFalse(one == value)
            self.assertTrue(one != value)


class LimitTest(unittest.TestCase):
    def test_exactly_the_limit_and_one_more(self):
        builder = MarkedBuilder()
        builder("a" * 19999)
        builder.mark("m")
        one, two = Builder()("b"), Builder()("bb")
        for call, row in (
            (builder.plain, ("bb",)), (builder, ("bb",)), (builder.copied, ("bb", "s", 0, 0)),
            (builder.pointed, ("bb", "s", 0, 0)), (builder.added, (two,)), (builder.put_in, ("m", two)),
            (builder.added, (builder,)), (builder.put_in, ("m", builder)),
        ):
            fails(self, TooLarge, "limit", 20000, call, *row)
        self.assertEqual((19999, 2), (len(builder), builder.step_count()))
        for call, row in (
            (builder.plain, ("b",)), (builder.copied, ("b", "s", 0, 0)), (builder.pointed, ("b", "s", 0, 0)),
            (builder.added, (one,)), (builder.put_in, ("m", one)),
        ):
            call(*row)
            self.assertEqual(20000, len(builder))
            fails(self, TooLarge, "limit", 20000, builder.plain, "b")
            builder.plain("")
            builder.undo()
            builder.undo()
        self.assertEqual(19999, len(builder))

    def test_behind_all_other_errors(self):
        builder = MarkedBuilder()
        builder("a" * 20000)
        fails(self, BadText, "place_index", None, builder.plain, None)
        for call in (builder.copied, builder.pointed):
            fails(self, BadName, "given", "", call, "b", "", 0, 0)
            fails(self, BadPlace, "given", (0, -1), call, "b", "s", 0, -1)
            fails(self, BadName, "given", "", call, "b", "s", 0, 0, word="")
            fails(self, TooLarge, "limit", 20000, call, "b", "s", 0, 0)
        fails(self, NoPlace, "given", "m", builder.put_in, "m", builder)
        builder.mark("m")
        fails(self, BadBuilder, "given", None, builder.put_in, "m", None)
        fails(self, TooLarge, "limit", 20000, builder.put_in, "m", builder)

    def test_indentation_counts(self):
        builder = Builder()
        builder.deeper(100)
        fails(self, TooLarge, "limit", 20000, builder.plain, "a" * 19901)
        self.assertEqual((0, 100), builder.plain("a" * 19900))
        fails(self, TooLarge, "limit", 20000, builder.plain, "\n")
        builder.undo()
        builder.plain("a" * 19899 + "\n")
        fails(self, TooLarge, "limit", 20000, builder.plain, "a")
        self.assertEqual(20000, len(builder))
        many = Builder()
        for _ in range(200):
            many.deeper(100)
        fails(self, TooLarge, "limit", 20000, many.plain, "a\n" * 10000)
        self.assertEqual(20000, len(many("\n" * 20000)))

    def test_a_text_may_have_more_pieces_than_a_map(self):
        builder = Builder()
        for index in range(10001):
            builder.pointed("a", "s", index & 1, 5 * index)
        self.assertEqual((10001, 10001), (len(builder), builder.step_count()))
        fails(self, TooLarge, "limit", 10000, builder.whole_map)
        fails(self, TooLarge, "limit", 10000, builder.as_part)
        self.assertEqual(builder, builder.copy())
        builder.undo()
        builder.undo()
        self.assertEqual(10000, len(builder.whole_map()))


if __name__ == "__main__":
    unittest.main()
