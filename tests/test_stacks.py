"""mapstack.stacks: points [32] and [33]."""

import random
import unittest

from mapstack.composing import composed, joined_levels
from mapstack.errors import BadMap, BadName, BadNumber, NoLevel, NothingLeft, TooLarge
from mapstack.maps import ClosedMap, Map
from mapstack.stacks import NotingStack, Stack
from tests.levelcases import all_places, any_rows, closed_case, led_by_words, level_of, pieces_of
from tests.mapcases import FAR, alternating, any_segments, target_by_words
from tests.support import NO_INTEGERS, NO_NAMES, NO_NUMBERS, fails

NO_MAPS = (True, False, None, 0, -1, "s", b"", (), ("run", 0, 0, "s", 0, 0), [], [Map()], {}, {"s": Map()}, object())
NO_LEVELS = (True, False, None, 0, -1, "s", b"", (), (("s", Map()),), [], [{}], Map(), object())
PLACES = all_places(2, 16)
CHANCE = random.Random(51)
# The segments of a map, and of the levels behind it.
CASES = [
    (any_segments(CHANCE, sources="stu"), [any_rows(CHANCE) for _ in range(CHANCE.randrange(5))]) for _ in range(120)
]


def stack_of(case, made=Stack):
    segments, levels = case
    return made(Map(*segments), *[level_of(rows) for rows in levels])


def state(stack):
    """All that a stack tells of its levels."""
    return [tuple(stack[0].pieces())] + [pieces_of(stack[number]) for number in range(1, len(stack))]


def links_by_words(case, place):
    """The words of [32]."""
    segments, levels = case
    target = target_by_words(segments, *place)
    links = [(0, target)]
    for number, rows in enumerate(levels):
        if target is not None and target[0] in rows:
            target = led_by_words(target, rows)
            links.append((number + 1, target))
    return links


def word_level_by_words(case, place):
    """The last level whose own map has a word there, if the target has one."""
    segments, levels = case
    links = links_by_words(case, place)
    if links[-1][1] is None or links[-1][1][3] is None:
        return None
    found = 0
    for (_, before), (number, _) in zip(links, links[1:]):
        if target_by_words(levels[number - 1][before[0]], *before[1:3])[3] is not None:
            found = number
    return found


class LookupTest(unittest.TestCase):
    def test_example_of_the_document(self):
        stack = Stack.of_maps(Map(("run", 0, 0, "b", 0, 1)), Map(("run", 0, 2, "a", 5, 0, "w")))
        self.assertEqual((None, ("a", 5, 2, "w")), (stack(0, 0), stack(0, 3)))
        self.assertEqual([(0, ("b", 0, 1, None)), (1, None)], list(stack.chain(0, 0)))
        self.assertEqual((("run", 0, 1, "a", 5, 0, "w"),), stack.flattened()[0])

    def test_by_the_words(self):
        words = set()
        for case in CASES:
            stack = stack_of(case)
            for place in PLACES:
                links = links_by_words(case, place)
                self.assertEqual(links, list(stack.chain(*place)))
                self.assertEqual(links[-1][1], stack(*place))
                level = word_level_by_words(case, place)
                self.assertEqual(level, stack.word_level(*place))
                words.add(level)
        self.assertTrue({None, 0, 1, 2} <= words)

    def test_levels_led_through_one_by_one(self):
        for segments, levels in CASES:
            stack, made = stack_of((segments, levels)), Map(*segments)
            for rows in levels:
                made = composed(made, level_of(rows))
            self.assertEqual([made(*place) for place in PLACES], [stack(*place) for place in PLACES])

    def test_chain_goes_by_the_levels_at_its_first_item(self):
        stack = Stack(Map.onto("a", 1), {"a": Map.onto("b", 1)})
        early, late = stack.chain(0, 0), stack.chain(0, 0)
        self.assertEqual((0, ("a", 0, 0, None)), next(early))
        stack.add_level({"b": Map.onto("c", 1)})
        stack.set_map(1, "a", Map.onto("b", 1).worded("w"))
        self.assertEqual([(1, ("b", 0, 0, None))], list(early))
        self.assertEqual(
            [(0, ("a", 0, 0, None)), (1, ("b", 0, 0, "w")), (2, ("c", 0, 0, "w"))], list(late)
        )

    def test_numbers(self):
        for stack in (stack_of(CASES[0]), Stack(Map()), NotingStack(Map())):
            for value in NO_NUMBERS + (FAR + 1, 10 ** 99):
                for call in (stack, stack.word_level, lambda *place: next(stack.chain(*place))):
                    fails(self, BadNumber, "given", value, call, value, -1)
                    fails(self, BadNumber, "given", value, call, 0, value)
                fails(self, BadNumber, "given", value, stack.looked_with, {}, value, -1)
                fails(self, BadNumber, "given", value, stack.looked_with, {}, 0, value)
            self.assertIsNone(stack(FAR, FAR))

    def test_from_level(self):
        for segments, levels in CASES:
            stack = stack_of((segments, levels))
            for number in range(1, len(levels) + 2):
                for name in ("s", "t", "x"):
                    for place in PLACES[:6] + [(1, 3), (0, FAR)]:
                        target = (name,) + place + (None,)
                        for rows in levels[number - 1:]:
                            target = led_by_words(target, rows)
                        self.assertEqual(target, stack.from_level(number, name, *place))

    def test_from_level_refuses(self):
        stack = Stack(Map(), {}, {})
        for value in NO_INTEGERS + (0, -1, 4, 10 ** 99):
            fails(self, NoLevel, "given", value, stack.from_level, value, "", -1, -1)
        for number in (1, 3):
            for value in NO_NAMES:
                fails(self, BadName, "given", value, stack.from_level, number, value, -1, -1)
            for value in NO_NUMBERS + (FAR + 1,):
                fails(self, BadNumber, "given", value, stack.from_level, number, "s", value, -1)
                fails(self, BadNumber, "given", value, stack.from_level, number, "s", 0, value)
        self.assertEqual(("s", FAR, FAR, None), stack.from_level(3, "s", FAR, FAR))

    def test_looked_with(self):
        for case, (_, more) in zip(CASES, CASES[1:]):
            stack = stack_of(case)
            for rows in more[:2]:
                for place in PLACES[:20]:
                    expected = led_by_words(links_by_words(case, place)[-1][1], rows)
                    self.assertEqual(expected, stack.looked_with(level_of(rows), *place))
        self.assertEqual(0, stack.undoable)
        self.assertEqual(state(stack_of(case)), state(stack))
        for value in NO_LEVELS:
            fails(self, BadMap, "given", value, stack.looked_with, value, -1, -1)
        fails(self, BadName, "given", "", stack.looked_with, {"a": Map(), "": None}, -1, -1)
        fails(self, BadMap, "given", None, stack.looked_with, {"a": None, "": None}, -1, -1)


class FlattenedTest(unittest.TestCase):
    def test_every_first_and_last(self):
        for case in CASES:
            stack = stack_of(case)
            outer, levels = stack[0], [stack[number] for number in range(1, len(stack))]
            many = len(stack)
            for last in list(range(1, many + 1)) + [None]:
                made = stack.flattened(0, last)
                self.assertIs(Map, made.__class__)
                self.assertEqual(composed(outer, *levels[:many if last is None else last - 1]), made)
                self.assertEqual(made, stack.flattened(last=last))
                for first in range(1, (many if last is None else last) + 1):
                    expected = joined_levels(*levels[first - 1:many if last is None else last - 1])
                    self.assertEqual(pieces_of(expected), pieces_of(stack.flattened(first, last)))
            self.assertEqual({}, stack.flattened(many))
            self.assertEqual({}, stack.flattened(many, many))

    def test_numbers(self):
        for many in (1, 2, 4):
            stack = Stack(Map(), *[{} for _ in range(many - 1)])
            for value in NO_INTEGERS + (-1, many + 1, 10 ** 99):
                fails(self, NoLevel, "given", value, stack.flattened, value, -5)
                if value is not None:
                    fails(self, NoLevel, "given", value, stack.flattened, 0, value)
            fails(self, NoLevel, "given", 0, stack.flattened, 0, 0)
            for first in range(1, many + 1):
                fails(self, NoLevel, "given", first - 1, stack.flattened, first, first - 1)
                self.assertEqual({}, stack.flattened(first, first))
                self.assertEqual({}, stack.flattened(first, many))

    def test_too_large(self):
        outer = Map(*[("run", line, 0, "a", 0, 0) for line in range(101)])
        stack = Stack(outer, {"x": outer}, {"a": Map(*alternating(100, source="b"))}, {"b": Map()})
        fails(self, TooLarge, "limit", 10000, stack.flattened)
        fails(self, TooLarge, "limit", 10000, stack.flattened, 0, 3)
        fails(self, TooLarge, "limit", 10000, stack.flattened, 1)
        fails(self, NoLevel, "given", 9, stack.flattened, 0, 9)
        self.assertEqual((101, 2), (len(stack.flattened(0, 2)), len(stack.flattened(2))))

    def test_result_belongs_to_the_caller(self):
        stack = Stack(Map(), {"a": Map()}, {"b": Map()})
        for first, last in ((1, None), (1, 2), (2, 3), (3, None)):
            stack.flattened(first, last)["c"] = 5
        self.assertEqual([("a", ())], pieces_of(stack[1]))
        self.assertEqual({}, stack.flattened(3))


class ClosedTest(unittest.TestCase):
    def test_closed_maps_are_as_the_maps_that_they_equal(self):
        chance = random.Random(4)
        for _ in range(40):
            closed, plain = closed_case(chance)
            inner, plain_inner = closed_case(chance)
            one, other = Stack(closed, {"s": inner}), Stack(plain, {"s": plain_inner})
            self.assertEqual([other(*place) for place in PLACES], [one(*place) for place in PLACES])
            self.assertEqual(other, one)
            self.assertEqual(Stack.of_maps(plain, plain_inner), Stack.of_maps(closed, inner))
            one.add_level({"t": inner})
            old = one.set_map(1, "s", closed)
            self.assertEqual(plain_inner, old)
            for made in (one[0], one[1]["s"], one.drop_level()["t"], old, one.flattened(), one.flattened(1)["s"]):
                self.assertIs(Map, made.__class__)


class OfMapsTest(unittest.TestCase):
    def test_sources_of_the_map_before(self):
        for segments, levels in CASES:
            maps = [Map(*segments)] + [Map(*(rows.get("s", []) + [("run", 5, 0, "x", 0, 0)])) for rows in levels]
            stack = Stack.of_maps(*maps)
            self.assertEqual(len(maps), len(stack))
            self.assertEqual(maps[0], stack[0])
            for number in range(1, len(maps)):
                self.assertEqual(list(maps[number - 1].sources()), list(stack[number]))
                for own_map in stack[number].values():
                    self.assertIs(maps[number], own_map)
            self.assertEqual(0, stack.undoable)
        self.assertEqual({}, Stack.of_maps(Map(), Map.onto("a", 1))[1])

    def test_refuses_the_first_that_is_no_map(self):
        for value in NO_MAPS:
            fails(self, BadMap, "given", value, Stack.of_maps, value)
            fails(self, BadMap, "given", value, Stack.of_maps, value, "a", None)
            fails(self, BadMap, "given", value, Stack.of_maps, Map(), Map(), value, "a")

    def test_class(self):
        self.assertIs(NotingStack, NotingStack.of_maps(Map(), Map()).__class__)
        self.assertIs(Stack, Stack.of_maps(Map()).__class__)


class LevelsTest(unittest.TestCase):
    def test_made_of_levels(self):
        for case in CASES:
            stack = stack_of(case)
            self.assertEqual(1 + len(case[1]), len(stack))
            self.assertEqual(Map(*case[0]), stack[0])
            for number, rows in enumerate(case[1]):
                self.assertEqual(pieces_of(level_of(rows)), pieces_of(stack[number + 1]))
            for name in "stuvwx":
                self.assertIs(any(name in rows for rows in case[1]), name in stack)

    def test_other_values_are_in_no_stack(self):
        stack = Stack(Map.onto("a", 1), {"b": Map()})
        for value in NO_NAMES + NO_MAPS + ("a", ("b",), "B"):
            self.assertIs(False, value in stack)
        self.assertIs(True, "b" in stack)

    def test_numbers_of_levels(self):
        for many in (1, 3):
            stack = Stack(Map(), *[{} for _ in range(many - 1)])
            for value in NO_INTEGERS + (-1, many, 10 ** 99):
                fails(self, NoLevel, "given", value, stack.__getitem__, value)
            self.assertEqual(Map(), stack[0])
            self.assertEqual([{}] * (many - 1), [stack[number] for number in range(1, many)])
            with self.assertRaises(TypeError):
                list(stack)

    def test_refused_levels(self):
        for value in NO_MAPS:
            fails(self, BadMap, "given", value, Stack, value, None)
            fails(self, BadMap, "given", value, Stack, Map(), {"a": Map(), "b": value, "": Map()}, None)
        for value in NO_LEVELS:
            fails(self, BadMap, "given", value, Stack, Map(), {}, value, {"": 0})
        for value in NO_NAMES:
            if not isinstance(value, (list, dict)):
                fails(self, BadName, "given", value, Stack, Map(), {}, {"a": Map(), value: 0, "b": 0}, None)

    def test_too_large_levels_are_no_error_of_a_stack(self):
        outer = Map(*[("run", line, 0, "a", 0, 0) for line in range(101)])
        stack = Stack(outer, {"a": Map(*alternating(100, source="b"))})
        self.assertEqual(("b", 1, 5, None), stack(100, 1))

    def test_equal_by_all_levels(self):
        for case in CASES[:40]:
            for other in CASES[:40]:
                same = state(stack_of(case)) == state(stack_of(other))
                self.assertIs(same, stack_of(case) == stack_of(other))
                self.assertIs(not same, stack_of(case) != stack_of(other, NotingStack))
        one, other = Map.onto("x", 1), Map.onto("y", 1)
        self.assertEqual(Stack(one, {"a": one, "b": other}), Stack(one, {"b": other, "a": one}))
        self.assertNotEqual(Stack(one, {"a": one}), Stack(one, {"a": one}, {}))
        self.assertNotEqual(Stack(one, {"a": one}), Stack(one, {"a": other}))
        for value in NO_MAPS:
            self.assertFalse(Stack(Map()) == value)

    def test_calls_by_name(self):
        stack = Stack(first=Map.onto("a", 1))
        stack.add_level(level={"a": Map.onto("b", 1)})
        stack.put_level(level={"q": Map()}, number=1)
        self.assertIsNone(stack.set_map(new_map=Map.onto("c", 1), source="b", number=2))
        self.assertEqual(("b", 0, 3, None), stack(column=3, line=0))
        self.assertEqual([0, 2], [number for number, _ in stack.chain(column=3, line=0)])
        self.assertIsNone(stack.word_level(column=3, line=0))
        self.assertEqual(("c", 0, 1, None), stack.from_level(column=1, line=0, source="b", number=2))
        self.assertEqual(("b", 1, 1, None), stack.looked_with(column=1, line=0, level={"b": Map(
            ("run", 0, 0, "b", 1, 0)
        )}))
        self.assertEqual(Map.onto("b", 1), stack.flattened(last=3, first=0))
        self.assertEqual({"q": Map()}, stack.take_level(number=1))
        self.assertEqual(2, len(Stack.of_maps(Map(), Map())))


class Model:
    """A stack as a plain list of its levels, each a list of pairs, for comparison."""

    def __init__(self, stack):
        self.levels = state(stack)
        self.past = []

    def change(self, levels):
        self.past.append(self.levels)
        self.levels = levels

    def put(self, number, level):
        self.change(self.levels[:number] + [pieces_of(level)] + self.levels[number:])

    def take(self, number):
        taken = self.levels[number]
        self.change(self.levels[:number] + self.levels[number + 1:])
        return taken

    def set_map(self, number, source, new_map):
        level, pieces = list(self.levels[number]), None if new_map is None else tuple(new_map.pieces())
        old = dict(level).get(source)
        if old is not None:
            at = [name for name, _ in level].index(source)
            level[at:at + 1] = [] if pieces is None else [(source, pieces)]
        elif pieces is not None:
            level.append((source, pieces))
        self.change(self.levels[:number] + [level] + self.levels[number + 1:])
        return old

    def undo(self):
        self.levels = self.past.pop()


class ChangesTest(unittest.TestCase):
    def any_change(self, chance, stack, model):
        number = chance.randrange(1, len(stack) + 1)
        level = level_of(any_rows(chance))
        kind = chance.choice(("add", "drop", "put", "take", "set", "set", "set", "undo"))
        if kind == "add":
            self.assertIsNone(stack.add_level(level))
            model.put(len(model.levels), level)
        elif kind == "put":
            self.assertIsNone(stack.put_level(number, level))
            model.put(number, level)
        elif kind == "drop" and len(stack) > 1:
            self.assertEqual(model.take(len(model.levels) - 1), pieces_of(stack.drop_level()))
        elif kind == "take" and number < len(stack):
            self.assertEqual(model.take(number), pieces_of(stack.take_level(number)))
        elif kind == "set" and number < len(stack):
            new_map = chance.choice((None, Map(*any_segments(chance))))
            name = chance.choice("stu")
            old = stack.set_map(number, name, new_map)
            self.assertEqual(model.set_map(number, name, new_map), None if old is None else tuple(old.pieces()))
        elif kind == "undo" and model.past:
            self.assertIsNone(stack.undo())
            model.undo()

    def test_rows_of_changes_and_their_undoing(self):
        chance = random.Random(61)
        for case in CASES[:60]:
            stack = stack_of(case, chance.choice((Stack, NotingStack)))
            model = Model(stack)
            for _ in range(25):
                self.any_change(chance, stack, model)
                self.assertEqual(model.levels, state(stack))
                self.assertEqual(len(model.past), stack.undoable)
            levels = [stack[number] for number in range(len(stack))]
            for place in PLACES[:10]:
                self.assertEqual(composed(*levels)(*place), stack(*place))
            while model.past:
                stack.undo()
                model.undo()
                self.assertEqual(model.levels, state(stack))
            self.assertEqual(stack_of(case), stack)
            with self.assertRaises(NothingLeft):
                stack.undo()

    def test_changes_that_leave_all_as_it_was_count(self):
        stack = Stack(Map(), {"a": Map()})
        self.assertIsNone(stack.set_map(1, "b", None))
        self.assertEqual(Map(), stack.set_map(1, "a", Map()))
        stack.add_level({})
        self.assertEqual({}, stack.drop_level())
        self.assertEqual(4, stack.undoable)

    def test_place_of_a_map_in_its_level(self):
        stack = Stack(Map(), {"a": Map(), "b": Map(), "c": Map()})
        stack.set_map(1, "b", Map.onto("x", 1))
        self.assertEqual(["a", "b", "c"], list(stack[1]))
        stack.set_map(1, "b", None)
        self.assertEqual(["a", "c"], list(stack[1]))
        stack.set_map(1, "b", Map())
        self.assertEqual(["a", "c", "b"], list(stack[1]))
        stack.undo()
        stack.undo()
        self.assertEqual(["a", "b", "c"], list(stack[1]))
        self.assertEqual(Map.onto("x", 1), stack[1]["b"])

    def test_numbers_just_within_and_just_beyond(self):
        for many in (1, 2, 4):
            def made():
                return Stack(Map(), *[{"a": Map.onto("l", number)} for number in range(1, many)])
            for value in NO_INTEGERS + (0, -1, many + 1, 10 ** 99):
                stack = made()
                fails(self, NoLevel, "given", value, stack.put_level, value, None)
                fails(self, NoLevel, "given", value, stack.take_level, value)
                fails(self, NoLevel, "given", value, stack.set_map, value, "", 5)
                self.assertEqual((made(), 0), (stack, stack.undoable))
            fails(self, NoLevel, "given", many, made().take_level, many)
            fails(self, NoLevel, "given", many, made().set_map, many, "a", None)
            for number in range(1, many + 1):
                stack = made()
                stack.put_level(number, {"new": Map()})
                self.assertEqual((["new"], many + 1), (list(stack[number]), len(stack)))
            for number in range(1, many):
                stack = made()
                self.assertEqual({"a": Map.onto("l", number)}, stack.take_level(number))
                self.assertEqual(many - 1, len(stack))
                self.assertEqual(Map.onto("l", number), made().set_map(number, "a", None))

    def test_refused_calls_change_nothing(self):
        stack = NotingStack(Map.onto("a", 2), {"a": Map.onto("b", 2)})
        stack.add_level({"b": Map.onto("c", 2)})
        stack(0, 1)
        before = state(stack)
        calls = []
        for value in NO_LEVELS:
            calls += [(BadMap, value, stack.add_level, value), (BadMap, value, stack.put_level, 1, value)]
        for value in NO_MAPS:
            level = {"a": Map(), "b": value, "": 0}
            calls += [(BadMap, value, stack.add_level, level), (BadMap, value, stack.put_level, 3, level)]
            if value is not None:
                calls.append((BadMap, value, stack.set_map, 2, "b", value))
        for value in NO_NAMES:
            calls.append((BadName, value, stack.set_map, 1, value, "no map"))
            if not isinstance(value, (list, dict)):
                level = {"a": Map(), value: 0, "b": 0}
                calls += [(BadName, value, stack.add_level, level), (BadName, value, stack.put_level, 2, level)]
        for error, value, call, *row in calls:
            fails(self, error, "given", value, call, *row)
            self.assertEqual(1, stack.undoable)
        self.assertEqual((before, ((0, 1),)), (state(stack), stack.notes()))
        stack.undo()
        self.assertEqual(2, len(stack))

    def test_nothing_left(self):
        stack = Stack(Map())
        for call in (stack.drop_level, stack.undo):
            with self.assertRaises(NothingLeft):
                call()
        self.assertEqual((1, 0), (len(stack), stack.undoable))
        stack.add_level({})
        stack.drop_level()
        with self.assertRaises(NothingLeft):
            stack.drop_level()
        self.assertEqual(2, stack.undoable)

    def test_levels_that_were_passed_or_returned_are_the_callers(self):
        first, second, third = ({"a": Map.onto(name, 1)} for name in "bcd")
        stack = Stack(Map.onto("a", 1), first)
        stack.add_level(second)
        stack.put_level(1, third)
        expected = state(stack)
        for level in (first, second, third, stack[1], stack[2], stack[3], stack.flattened(1)):
            level["a"] = "changed"
            level["x"] = None
        self.assertEqual(expected, state(stack))
        for returned in (stack.drop_level(), stack.take_level(1)):
            returned.clear()
            stack.undo()
        self.assertEqual(expected, state(stack))
        maps = [Map.onto("a", 1), Map.onto("b", 1)]
        made = Stack.of_maps(*maps)
        maps.clear()
        self.assertEqual(("b", 0, 0, None), made(0, 0))


class TwinTest(unittest.TestCase):
    def test_equal_and_independent(self):
        for case in CASES[:30]:
            for kind in (Stack, NotingStack):
                stack = stack_of(case, kind)
                stack.add_level({"s": Map()})
                twin = stack.twin()
                self.assertIs(kind, twin.__class__)
                self.assertEqual(state(stack), state(twin))
                self.assertEqual((1, 0), (stack.undoable, twin.undoable))
                twin.drop_level()
                twin.add_level({"z": Map()})
                self.assertNotIn("z", stack)
                stack.undo()
                self.assertEqual(len(case[1]) + 2, len(twin))
                with self.assertRaises(NothingLeft):
                    stack.twin().undo()


class NotingTest(unittest.TestCase):
    def test_notes_its_calls_and_nothing_else(self):
        chance = random.Random(71)
        for case in CASES[:30]:
            stack, expected = stack_of(case, NotingStack), []
            self.assertEqual((), stack.notes())
            for _ in range(8):
                place = chance.choice(PLACES)
                self.assertEqual(stack_of(case)(*place), stack(*place))
                expected.append(place)
                list(stack.chain(0, 0)), stack.word_level(0, 1), stack.from_level(1, "s", 0, 0), stack.flattened()
                stack.looked_with({}, 1, 1), stack.twin(), stack == stack, "s" in stack, stack[0], len(stack)
                stack.add_level({}), stack.undo()
                for wrong in ((-1, 0), (0, None), (FAR + 1, 0)):
                    with self.assertRaises(BadNumber):
                        stack(*wrong)
                self.assertEqual(tuple(expected), stack.notes())
            twin = stack.twin()
            self.assertEqual(((), tuple(expected)), (twin.notes(), stack.notes()))
            twin(0, 0)
            self.assertEqual(tuple(expected), stack.notes())
            self.assertIsNone(stack.forget_notes())
            self.assertEqual(((), ((0, 0),)), (stack.notes(), twin.notes()))
            stack(column=1, line=2)
            self.assertEqual(((2, 1),), stack.notes())

    def test_notes_do_not_count_for_equality(self):
        one, other = NotingStack(Map()), NotingStack(Map())
        one(0, 0)
        self.assertEqual(one, other)
        self.assertEqual(Stack(Map()), one)


if __name__ == "__main__":
    unittest.main()
