"""mapstack.trackers: points [57] and [58]."""

import random
import unittest

from mapstack.composing import through
from mapstack.edits import Edit
from mapstack.errors import BadEdit, BadMap, BadName, BadNumber, BadText, NoPlace, NothingLeft, NoText, TooLarge
from mapstack.led import edited, edited_losses, led, led_losses
from mapstack.maps import ClosedMap, Map
from mapstack.patches import Patch
from mapstack.trackers import LoggingTracker, Tracker
from tests.editcases import any_edit_of, changed_text
from tests.levelcases import all_places
from tests.mapcases import FAR, alternating, any_segments, target_by_words
from tests.support import NO_INTEGERS, NO_NAMES, NO_TEXTS, fails

NO_MAPS = (True, False, None, 0, -1, "s", b"", (), ("run", 0, 0, "s", 0, 0), [], {}, {"s": Map()}, object())
NO_EDITS = (True, False, None, 0, "", "s", (), ((0, 0), (0, 1), ""), [], {}, Patch(), Map(), object())
SMALL = ("", "", "x", "yz", "\n", "a\nb")


def lengths_of(text):
    return tuple(len(line) for line in text.split("\n"))


def any_text(chance, most=9):
    return "".join(chance.choice("ab \n") for _ in range(chance.randrange(most)))


def any_map(chance, text, sources):
    return Map(*any_segments(chance, lines=3, sources=sources)).closed(lengths_of(text))


def rows_of(tracker):
    """The names, texts and maps of a tracker."""
    names = tracker.names()
    maps = [None] + [tracker.map_of(name) for name in names[1:]]
    return [(name, tracker.text_of(name), own_map) for name, own_map in zip(names, maps)]


def trail_by_words(rows, line, column):
    """The words of [58]."""
    number = len(rows) - 1
    found = [(rows[number][0], line, column)]
    while number > 0:
        target = rows[number][2](line, column) if max(line, column) <= FAR else None
        in_front = [row[0] for row in rows[:number]]
        if target is None or target[0] not in in_front:
            break
        number = in_front.index(target[0])
        line, column = target[1], target[2]
        found.append((target[0], line, column))
    return found


class Model:
    """Does the steps of [57] slowly, and keeps all of them as they were told."""

    def __init__(self, name, text):
        self.first = (name, text)
        self.rows = [(name, text, None)]

    def change(self, name, edit):
        names = [row[0] for row in self.rows]
        at = names.index(name)
        losses, rows = [], []
        for number, (other, text, own_map) in enumerate(self.rows):
            if number == at:
                text = changed_text(text, edit)
                if own_map is not None:
                    losses += [(other,) + row for row in edited_losses(own_map, edit)]
                    own_map = edited(own_map, edit)
            if number > at:
                losses += [(other,) + row for row in led_losses(own_map, name, edit)]
                own_map = led(own_map, name, edit)
            rows.append((other, text, own_map))
        self.rows = rows
        return tuple(losses)

    def make(self, step):
        """Make a step, told by a tuple of its sort and what it is passed."""
        if step[0] == "add":
            self.rows = self.rows + [step[1:]]
        elif step[0] == "drop":
            self.rows = self.rows[:-1]
        elif step[0] == "change":
            return self.change(*step[1:])
        else:
            losses = ()
            for name, edit in step[1]:
                losses += self.change(name, edit)
            return losses
        return None


def make(tracker, step):
    if step[0] == "add":
        return tracker.add(*step[1:])
    if step[0] == "drop":
        return tracker.drop_last()
    if step[0] == "change":
        return tracker.change(*step[1:])
    return tracker.change_all(step[1])


def any_edits(chance, model, many):
    """Pairs of names and edits, each of the text that the ones before made."""
    own = Model(*model.first)
    own.rows = list(model.rows)
    found = []
    for _ in range(many):
        name, text, _ = chance.choice(own.rows)
        found.append((name, any_edit_of(chance, text, SMALL)))
        own.change(*found[-1])
    return tuple(found)


def any_step(chance, model):
    names = [row[0] for row in model.rows]
    sort = chance.choice(("add", "change", "change", "change", "all", "drop"))
    free = [name for name in "pqrs" if name not in names]
    if sort == "add" and free:
        text = any_text(chance)
        return "add", chance.choice(free), text, any_map(chance, text, "pqrsx")
    if sort == "drop" and len(names) > 1:
        return ("drop",)
    if sort == "all":
        return "all", any_edits(chance, model, chance.randrange(4))
    return ("change",) + any_edits(chance, model, 1)[0]


def replayed(first, steps):
    model = Model(*first)
    for step in steps:
        model.make(step)
    return model


def edits_of(steps):
    found = []
    for step in steps:
        if step[0] == "change":
            found.append(step[1:])
        if step[0] == "all":
            found.extend(step[1])
    return tuple(found)


class StepsTest(unittest.TestCase):
    def walk(self, chance, made, many):
        """Make, undo and redo at random, and compare with a new tracker in which the steps that stand were made."""
        first = ("p", made.text_of("p"))
        steps, undone = [], []
        for _ in range(many):
            sort = chance.choice(("step", "step", "step", "undo", "redo"))
            if sort == "undo":
                if steps:
                    self.assertIsNone(made.undo())
                    undone.append(steps.pop())
                else:
                    self.assertRaises(NothingLeft, made.undo)
            elif sort == "redo":
                if undone:
                    self.assertIsNone(made.redo())
                    steps.append(undone.pop())
                else:
                    self.assertRaises(NothingLeft, made.redo)
            else:
                model = replayed(first, steps)
                step = any_step(chance, model)
                self.assertEqual(model.make(step), make(made, step))
                steps.append(step)
                undone = []
            model = replayed(first, steps)
            self.assertEqual(model.rows, rows_of(made))
            self.assertEqual(edits_of(steps), made.log())
        return steps

    def test_random_walks(self):
        chance = random.Random(571)
        for _ in range(60):
            made = LoggingTracker("p", any_text(chance))
            self.walk(chance, made, 14)

    def test_new_tracker_equals(self):
        chance = random.Random(572)
        for _ in range(40):
            first = ("p", any_text(chance))
            made = LoggingTracker(*first)
            steps = self.walk(chance, made, 8)
            anew = Tracker(*first)
            for step in steps:
                make(anew, step)
            self.assertTrue(anew == made)
            self.assertTrue(made == anew)

    def test_texts_stay_as_their_maps_tell(self):
        chance = random.Random(573)
        for _ in range(40):
            made = LoggingTracker("p", any_text(chance))
            self.walk(chance, made, 10)
            for _, text, own_map in rows_of(made)[1:]:
                self.assertEqual(own_map, own_map.closed(lengths_of(text)))

    def test_everything_can_be_undone_and_redone(self):
        made = Tracker("p", "abc")
        states = [rows_of(made)]
        for step in (
            ("add", "q", "ab", Map(("run", 0, 0, "p", 0, 0), ("gap", 0, 2))),
            ("change", "p", Edit((0, 0), (0, 1), "")),
            ("all", ()),
            ("change", "q", Edit((0, 0), (0, 0), "")),
            ("drop",),
            ("add", "q", "", Map()),
            ("all", (("q", Edit((0, 0), (0, 0), "x")), ("p", Edit((0, 0), (0, 0), "y")))),
        ):
            make(made, step)
            states.append(rows_of(made))
        for state in reversed(states[:-1]):
            made.undo()
            self.assertEqual(state, rows_of(made))
        self.assertRaises(NothingLeft, made.undo)
        for state in states[1:]:
            made.redo()
            self.assertEqual(state, rows_of(made))
        self.assertRaises(NothingLeft, made.redo)

    def test_a_new_step_takes_away_what_can_be_redone(self):
        for step in (("all", ()), ("add", "r", "", Map()), ("change", "p", Edit((0, 0), (0, 0), "")), ("drop",)):
            made = Tracker("p", "abc")
            made.add("q", "", Map())
            made.change("p", Edit((0, 0), (0, 1), ""))
            made.undo()
            make(made, step)
            self.assertRaises(NothingLeft, made.redo)

    def test_refused_calls_are_no_steps(self):
        made = LoggingTracker("p", "abc")
        made.add("q", "ab", Map(("run", 0, 0, "p", 0, 0), ("gap", 0, 2)))
        made.change("p", Edit((0, 0), (0, 1), ""))
        made.undo()
        before = rows_of(made)
        bad = Edit((0, 9), (0, 9), "x")
        for error, call in (
            (BadName, lambda: made.add("q", "", Map())), (BadText, lambda: made.add("r", None, Map())),
            (BadMap, lambda: made.add("r", "", Map(("run", 0, 0, "p", 0, 0)))), (NoText, lambda: made.change("r", bad)),
            (BadEdit, lambda: made.change("q", None)), (NoPlace, lambda: made.change("q", bad)),
            (BadEdit, lambda: made.change_all((("p", Edit((0, 0), (0, 3), "")), ("p", Edit((0, 1), (0, 1), "")))))
        ):
            self.assertRaises(error, call)
            self.assertEqual(before, rows_of(made))
            self.assertEqual((), made.log())
        made.redo()
        self.assertEqual("bc", made.text_of("p"))
        self.assertEqual(1, len(made.log()))
        made.undo(), made.undo()
        self.assertRaises(NothingLeft, made.undo)
        self.assertRaises(NothingLeft, made.drop_last)
        made.redo(), made.redo()
        self.assertEqual(2, len(made))


class ChangeTest(unittest.TestCase):
    def tracker(self):
        made = Tracker("p", "abcd\nef")
        made.add("q", "ab\ncd", Map(("run", 0, 0, "p", 0, 0), ("gap", 0, 2), ("run", 1, 0, "p", 0, 2), ("gap", 1, 2)))
        made.add("r", "abef", Map(("run", 0, 0, "q", 0, 0), ("point", 0, 2, "p", 1, 0, "w"), ("gap", 0, 4)))
        return made

    def test_first_text(self):
        made = self.tracker()
        losses = made.change("p", Edit((0, 1), (0, 3), "xyz"))
        self.assertEqual((("q", 0, 1, 2), ("q", 1, 0, 1)), losses)
        self.assertEqual(("axyzd\nef", "ab\ncd", "abef"), tuple(made.text_of(name) for name in "pqr"))
        self.assertEqual(
            [("run", 0, 0, "p", 0, 0), ("gap", 0, 1), ("run", 1, 1, "p", 0, 4), ("gap", 1, 2)],
            list(made.map_of("q").pieces()),
        )
        self.assertEqual((("r", 0, 2, 4),), made.change("p", Edit((1, 0), (1, 1), "")))

    def test_text_between(self):
        made = self.tracker()
        losses = made.change("q", Edit((0, 1), (1, 1), "\n"))
        self.assertEqual((("q", 0, 1, 2), ("q", 1, 0, 1), ("r", 0, 1, 2)), losses)
        self.assertEqual("a\nd", made.text_of("q"))
        self.assertEqual([("run", 0, 0, "p", 0, 0), ("gap", 0, 1), ("run", 1, 0, "p", 0, 3), ("gap", 1, 1)],
                         list(made.map_of("q").pieces()))
        self.assertEqual("abcd\nef", made.text_of("p"))

    def test_last_text(self):
        made = self.tracker()
        before = made.map_of("q")
        self.assertEqual((("r", 0, 0, 4),), made.change("r", Edit((0, 0), (0, 4), "new\n")))
        self.assertEqual(("new\n", 0, before), (made.text_of("r"), len(made.map_of("r")), made.map_of("q")))
        self.assertEqual((), made.change("r", Edit((1, 0), (1, 0), "x")))

    def test_virtual_targets_move_too(self):
        made = Tracker("p", "ab")
        made.add("q", "cdef", Map(("point", 0, 0, "p", 7, 7), ("run", 0, 2, "p", 0, 5), ("gap", 0, 4)))
        self.assertEqual((), made.change("p", Edit((0, 2), (0, 2), "x\n")))
        self.assertEqual([("point", 0, 0, "p", 8, 7), ("run", 0, 2, "p", 1, 3), ("gap", 0, 4)],
                         list(made.map_of("q").pieces()))

    def test_other_targets_stay(self):
        """Targets in the text itself, in texts behind, and in other sources are not led."""
        edit = Edit((0, 0), (0, 1), "xyz")
        made = Tracker("p", "ab")
        own = Map(("run", 0, 0, "q", 0, 0), ("point", 0, 2, "r", 0, 0), ("run", 0, 4, "z", 0, 0), ("gap", 0, 6))
        made.add("q", "abcdef", own)
        made.add("r", "ab", Map(("run", 0, 0, "q", 0, 0), ("gap", 0, 2)))
        made.change("r", edit)
        self.assertEqual(own, made.map_of("q"))
        self.assertEqual((("q", 0, 0, 1),), made.change("q", edit))
        self.assertEqual(edited(own, edit), made.map_of("q"))
        self.assertEqual((), made.change("p", edit))
        self.assertEqual(edited(own, edit), made.map_of("q"))

    def test_names_that_come_later_lead_from_then_on(self):
        made = Tracker("p", "ab")
        made.add("q", "ab", Map(("run", 0, 0, "r", 0, 0), ("gap", 0, 2)))
        made.add("r", "ab", Map(("run", 0, 0, "q", 0, 0), ("gap", 0, 2)))
        made.add("s", "ab", Map(("run", 0, 0, "r", 0, 0), ("gap", 0, 2)))
        self.assertEqual((("r", 0, 0, 1), ("s", 0, 0, 1)), made.change("r", Edit((0, 0), (0, 1), "")))
        self.assertEqual([("run", 0, 0, "r", 0, 0), ("gap", 0, 2)], list(made.map_of("q").pieces()))

    def test_wrong_values(self):
        made = self.tracker()
        fine = Edit((0, 0), (0, 0), "x")
        for value in NO_NAMES + ("x", "P"):
            fails(self, NoText, "given", value, made.change, value, fine)
        for value in NO_EDITS:
            fails(self, BadEdit, "index", None, made.change, "p", value)
        for name, low, high, given in (
            ("p", (0, 5), (0, 6), (0, 5)), ("p", (0, 4), (0, 5), (0, 5)), ("p", (2, 0), (9, 9), (2, 0)),
            ("q", (0, 1), (2, 0), (2, 0)), ("r", (0, FAR), (0, FAR), (0, FAR)),
        ):
            fails(self, NoPlace, "given", given, made.change, name, Edit(low, high, ""))
        fails(self, NoText, "given", "x", made.change, "x", None)
        self.assertEqual((), made.change(edit=fine, name="p"))

    def test_too_large(self):
        made = Tracker("p", "")
        text = "x" * 5000 + "\n" + "x" * 5000
        made.add("q", text, Map(*alternating(9998, source="p"), ("gap", 0, 5000), ("gap", 1, 4998)))
        before = rows_of(made)
        middle = Edit((0, 10), (0, 10), "y")
        fails(self, TooLarge, "limit", 10000, made.change, "q", middle)
        fails(self, TooLarge, "limit", 10000, made.change_all, (("p", Edit((0, 0), (0, 0), "")), ("q", middle)))
        self.assertEqual(before, rows_of(made))
        made.undo()
        self.assertRaises(NothingLeft, made.undo)


class ChangeAllTest(unittest.TestCase):
    def tracker(self):
        made = LoggingTracker("p", "abcd")
        made.add("q", "ab", Map(("run", 0, 0, "p", 0, 1), ("gap", 0, 2)))
        return made

    def test_no_rows(self):
        made = self.tracker()
        self.assertEqual((), made.change_all(()))
        made.undo()
        self.assertEqual(2, len(made))
        made.redo(), made.undo(), made.undo()
        self.assertEqual(1, len(made))

    def test_one_text_in_turn(self):
        made = self.tracker()
        rows = (("p", Edit((0, 0), (0, 1), "xyz")), ("p", Edit((0, 5), (0, 6), "\n")), ("q", Edit((0, 0), (0, 1), "")))
        self.assertEqual((("q", 0, 0, 1),), made.change_all(rows))
        self.assertEqual(("xyzbc\n", "b"), (made.text_of("p"), made.text_of("q")))
        self.assertEqual(rows, made.log())
        made.undo()
        self.assertEqual(("abcd", "ab"), (made.text_of("p"), made.text_of("q")))
        made.redo()
        self.assertEqual(("xyzbc\n", rows), (made.text_of("p"), made.log()))

    def test_losses_of_all_in_turn(self):
        made = self.tracker()
        rows = (("q", Edit((0, 1), (0, 2), "")), ("p", Edit((0, 0), (0, 4), "")), ("q", Edit((0, 0), (0, 1), "")))
        self.assertEqual((("q", 0, 1, 2), ("q", 0, 0, 1)), made.change_all(rows))

    def test_refused_in_the_middle(self):
        made = self.tracker()
        fine = ("p", Edit((0, 0), (0, 1), ""))
        last = ("p", Edit((0, 4), (0, 4), "x"))
        before = rows_of(made)
        for index, rows in (
            (1, (fine, last)), (2, (fine, fine, ("p", Edit((0, 2), (0, 3), "")), fine)), (0, (("x", fine[1]), last)),
            (1, (fine, ("q", None), last)), (2, (fine, fine, (1, fine[1]), None)),
        ):
            fails(self, BadEdit, "index", index, made.change_all, rows)
            self.assertEqual(before, rows_of(made))
        self.assertEqual((), made.log())
        self.assertEqual((), made.change_all((last, fine))[1:])

    def test_wrong_values(self):
        made = self.tracker()
        fine = ("p", Edit((0, 0), (0, 0), ""))
        for value in (True, None, 0, "", "p", [], [fine], {}, {"p": fine[1]}, Patch(), object()):
            fails(self, BadEdit, "index", None, made.change_all, value)
            fails(self, BadEdit, "index", 0, made.change_all, (value,))
            fails(self, BadEdit, "index", 1, made.change_all, (fine, value, None))
        for value in ((), ("p",), ("p", fine[1], 0), list(fine), (fine[1], "p"), ((fine,),), fine[1]):
            fails(self, BadEdit, "index", 2, made.change_all, (fine, fine, value))
        for value in NO_NAMES:
            fails(self, BadEdit, "index", 0, made.change_all, ((value, fine[1]),))
        for value in NO_EDITS:
            fails(self, BadEdit, "index", 0, made.change_all, (("p", value),))
        self.assertEqual((), made.change_all(rows=(fine,)))


class AddTest(unittest.TestCase):
    def test_closed_to_the_text(self):
        made = Tracker("p", "ab")
        for text, segments in (
            ("", (("point", 0, 0, "p", 0, 0),)), ("ab", (("run", 0, 0, "p", 0, 0),)),
            ("ab", (("run", 0, 0, "p", 0, 0), ("gap", 0, 3))), ("ab", (("run", 1, 0, "p", 0, 0), ("gap", 1, 1))),
            ("ab\n", (("run", 1, 0, "p", 0, 0), ("gap", 1, 1))), ("a\nb", (("run", FAR, 0, "p", 0, 0),)),
            ("a\nb", (("run", 0, 0, "x", 0, 0), ("gap", 0, 2))),
        ):
            own = Map(*segments)
            fails(self, BadMap, "given", own, made.add, "q", text, own)
        many = Map.onto("p", 10000)
        fails(self, BadMap, "given", many, made.add, "q", "\n" * 10000, many)
        for text, segments in (
            ("", ()), ("ab", ()), ("ab", (("run", 0, 0, "p", 0, 0), ("gap", 0, 2))),
            ("ab\ncd", (("point", 1, 1, "x", 0, 0, "w"), ("gap", 1, 2))), ("\n\n", ()),
        ):
            self.assertIsNone(made.add("q", text, Map(*segments)))
            made.drop_last()
        far_out = Map(("run", 0, 0, "p", FAR, FAR), ("gap", 0, 1))
        made.add("q", "x", far_out)
        self.assertEqual(far_out, made.map_of("q"))

    def test_closed_maps(self):
        made = Tracker("p", "ab")
        shut = ClosedMap((2, 5), (("run", 0, 0, "p", 0, 0),))
        made.add("q", "ab", shut)
        self.assertEqual(shut, made.map_of("q"))
        self.assertIs(Map, type(made.map_of("q")))
        wide = ClosedMap((3,), (("run", 0, 0, "p", 0, 0),))
        fails(self, BadMap, "given", wide, made.add, "r", "ab", wide)

    def test_wrong_values(self):
        made = Tracker("p", "ab")
        made.add("q", "ab", Map())
        for value in NO_NAMES + ("p", "q"):
            fails(self, BadName, "given", value, made.add, value, "", Map())
        for value in NO_TEXTS:
            fails(self, BadText, "place_index", None, made.add, "r", value, Map())
        for value in NO_MAPS:
            fails(self, BadMap, "given", value, made.add, "r", "", value)
        fails(self, BadName, "given", "p", made.add, "p", None, None)
        fails(self, BadText, "place_index", None, made.add, "r", None, None)
        made.drop_last()
        self.assertIsNone(made.add(map_here=Map(), text="", name="q"))

    def test_wrong_first_texts(self):
        for made in (Tracker, LoggingTracker):
            for value in NO_NAMES:
                fails(self, BadName, "given", value, made, value, "")
            for value in NO_TEXTS:
                fails(self, BadText, "place_index", None, made, "p", value)
            fails(self, BadName, "given", None, made, None, None)
            self.assertEqual(("p",), made(text="", name="p").names())

    def test_drop_last(self):
        made = Tracker("p", "ab")
        self.assertRaises(NothingLeft, made.drop_last)
        made.add("q", "", Map()), made.add("r", "", Map())
        self.assertIsNone(made.drop_last())
        self.assertEqual(("p", "q"), made.names())
        made.add("r", "x", Map())
        self.assertEqual("x", made.text_of("r"))


class TellsTest(unittest.TestCase):
    def test_names_texts_and_maps(self):
        made = Tracker("p", "ab")
        self.assertEqual((("p",), 1, "ab"), (made.names(), len(made), made.text_of("p")))
        fails(self, NoText, "given", "p", made.map_of, "p")
        made.add("b", "cd", Map())
        made.add("a", "", Map())
        self.assertEqual((("p", "b", "a"), 3, "cd"), (made.names(), len(made), made.text_of("b")))
        self.assertEqual(Map(), made.map_of("a"))
        for name in ("p", "a", "b"):
            self.assertTrue(name in made)
        for value in NO_NAMES + ("x", "P", ("p",)):
            self.assertFalse(value in made)
            fails(self, NoText, "given", value, made.text_of, value)
            fails(self, NoText, "given", value, made.map_of, value)

    def test_trail(self):
        made = Tracker("p", "abcd")
        made.add("q", "ab", Map(("run", 0, 0, "p", 0, 1), ("gap", 0, 2)))
        made.add("r", "abcdefg", Map(
            ("run", 0, 0, "q", 0, 0), ("point", 0, 2, "p", 9, 9), ("point", 0, 3, "x", 0, 0), ("run", 0, 4, "r", 0, 0),
            ("run", 0, 5, "q", 0, 2), ("gap", 0, 6),
        ))
        for column, expected in enumerate((
            [("r", 0, 0), ("q", 0, 0), ("p", 0, 1)], [("r", 0, 1), ("q", 0, 1), ("p", 0, 2)], [("r", 0, 2), ("p", 9, 9)],
            [("r", 0, 3)], [("r", 0, 4)], [("r", 0, 5), ("q", 0, 2)], [("r", 0, 6)], [("r", 0, 7)],
        )):
            self.assertEqual(expected, list(made.trail(0, column)))
        self.assertEqual([("r", FAR, FAR)], list(made.trail(FAR, FAR)))
        made.drop_last(), made.drop_last()
        self.assertEqual([("p", 0, 1)], list(made.trail(0, 1)))
        self.assertEqual([("p", 5, 0)], list(made.trail(column=0, line=5)))

    def test_trail_to_itself_and_to_texts_behind_ends(self):
        made = Tracker("p", "ab")
        made.add("q", "ab", Map(("run", 0, 0, "q", 0, 1), ("point", 0, 1, "r", 0, 0), ("gap", 0, 2)))
        made.add("r", "ab", Map(("run", 0, 0, "q", 0, 0), ("gap", 0, 2)))
        self.assertEqual([("r", 0, 0), ("q", 0, 0)], list(made.trail(0, 0)))
        self.assertEqual([("r", 0, 1), ("q", 0, 1)], list(made.trail(0, 1)))

    def test_trail_beyond_the_numbers_of_maps(self):
        made = Tracker("p", "ab")
        made.add("q", "ab", Map(("run", 0, 0, "p", FAR, FAR), ("gap", 0, 2)))
        made.add("r", "ab", Map(("point", 0, 0, "q", FAR, FAR), ("gap", 0, 2)))
        made.change("q", Edit((0, 0), (0, 0), "\n"))
        self.assertEqual([("r", 0, 1), ("q", FAR + 1, FAR)], list(made.trail(0, 1)))

    def test_random_trails(self):
        chance = random.Random(581)
        for _ in range(60):
            made = Tracker("p", any_text(chance))
            for name in "qrs":
                text = any_text(chance, 16)
                made.add(name, text, any_map(chance, text, "pqrsx"))
            rows = rows_of(made)
            for line in range(3):
                for column in range(10):
                    self.assertEqual(trail_by_words(rows, line, column), list(made.trail(line, column)))

    def test_wrong_trails(self):
        made = Tracker("p", "ab")
        for value in NO_INTEGERS + (-1, FAR + 1, 10 ** 99):
            fails(self, BadNumber, "given", value, lambda: list(made.trail(value, 0)))
            fails(self, BadNumber, "given", value, lambda: list(made.trail(0, value)))
        fails(self, BadNumber, "given", -1, lambda: list(made.trail(-1, None)))
        late = made.trail(None, 0)
        with self.assertRaises(BadNumber):
            next(late)

    def test_flat(self):
        made = Tracker("p", "abcd")
        fails(self, NoText, "given", "p", made.flat)
        first = Map(("run", 0, 0, "p", 0, 1, "v"), ("run", 0, 1, "p", 0, 2), ("gap", 0, 2))
        made.add("q", "ab", first)
        self.assertEqual(first, made.flat())
        made.add("r", "abc", Map(
            ("run", 0, 0, "q", 0, 0, "w"), ("point", 0, 2, "p", 7, 7, "u"), ("gap", 0, 3)
        ))
        self.assertEqual([
            ("run", 0, 0, "p", 0, 1, "v"), ("run", 0, 1, "p", 0, 2, "w"), ("run", 0, 2, "p", 7, 7, "u"), ("gap", 0, 3),
        ], list(made.flat().pieces()))

    def test_flat_at_every_position(self):
        chance = random.Random(582)
        for _ in range(80):
            made = Tracker("p", any_text(chance))
            segments = {}
            for name in "qrs":
                text = any_text(chance, 16)
                own = any_map(chance, text, "pqrsx")
                segments[name] = list(own.pieces())
                made.add(name, text, own)
            flat = made.flat()
            for place in all_places():
                target = target_by_words(segments["s"], *place)
                for name in "rq":
                    if target is not None and target[0] == name:
                        told = target_by_words(segments[name], target[1], target[2])
                        if told is not None and told[3] is None:
                            told = told[:3] + target[3:]
                        target = told
                self.assertEqual(target, flat(*place))
            level_wise = through(through(made.map_of("s"), {"r": made.map_of("r")}), {"q": made.map_of("q")})
            self.assertEqual(level_wise, flat)

    def test_flat_that_is_too_large(self):
        made = Tracker("p", "")
        text = "x" * 5000 + "\n" + "x" * 5000
        made.add("q", text, Map(*alternating(9998, source="p"), ("gap", 0, 5000), ("gap", 1, 4998)))
        made.add("r", text + "\n" + text, Map(
            ("run", 0, 0, "q", 0, 0), ("gap", 0, 5000), ("run", 1, 0, "q", 1, 0), ("gap", 1, 4000),
            ("run", 2, 0, "q", 0, 0), ("gap", 2, 5000),
        ))
        fails(self, TooLarge, "limit", 10000, made.flat)

    def test_equal(self):
        made = Tracker("p", "ab")
        self.assertTrue(made == Tracker("p", "ab"))
        self.assertTrue(made == LoggingTracker("p", "ab"))
        self.assertTrue(LoggingTracker("p", "ab") == made)
        self.assertFalse(made == Tracker("p", "abc"))
        self.assertFalse(made == Tracker("q", "ab"))
        other = Tracker("p", "ab")
        other.add("q", "x", Map())
        self.assertFalse(made == other)
        made.add("q", "x", Map(("run", 0, 0, "p", 0, 0), ("gap", 0, 1)))
        self.assertFalse(made == other)
        other.drop_last()
        other.add("q", "x", ClosedMap((1,), (("point", 0, 0, "p", 0, 0),)))
        self.assertTrue(made == other)
        made.undo(), other.undo()
        self.assertTrue(made == other)
        other.undo()
        self.assertFalse(made == other)
        for value in (None, 0, "", "p", (), [], {}, Map()):
            self.assertFalse(made == value)


class CopyTest(unittest.TestCase):
    def test_copies_are_independent(self):
        for kind in (Tracker, LoggingTracker):
            made = kind("p", "ab")
            made.add("q", "x", Map(("run", 0, 0, "p", 0, 0), ("gap", 0, 1)))
            made.change("p", Edit((0, 0), (0, 1), ""))
            made.undo()
            other = made.copy()
            self.assertIs(kind, type(other))
            self.assertTrue(made == other)
            made.change("p", Edit((0, 0), (0, 2), "new"))
            self.assertEqual(("new", "ab"), (made.text_of("p"), other.text_of("p")))
            self.assertRaises(NothingLeft, made.redo)
            other.redo()
            self.assertEqual(("new", "b"), (made.text_of("p"), other.text_of("p")))
            other.undo(), other.undo()
            self.assertEqual((2, 1), (len(made), len(other)))
            self.assertRaises(NothingLeft, other.undo)
            made.undo(), made.undo()
            self.assertTrue(made == other)

    def test_log(self):
        made = LoggingTracker("p", "ab")
        self.assertEqual((), made.log())
        one, two = Edit((0, 0), (0, 1), ""), Edit((0, 0), (0, 0), "x")
        made.change("p", one)
        made.add("q", "", Map())
        made.change_all((("q", two), ("p", two)))
        made.change("p", Edit((0, 0), (0, 0), ""))
        idle = Edit((0, 0), (0, 0), "")
        self.assertEqual((("p", one), ("q", two), ("p", two), ("p", idle)), made.log())
        made.drop_last()
        self.assertEqual(4, len(made.log()))
        other = made.copy()
        made.undo(), made.undo(), made.undo()
        self.assertEqual((("p", one),), made.log())
        self.assertEqual(4, len(other.log()))
        made.redo()
        self.assertEqual((("p", one), ("q", two), ("p", two)), made.log())
        made.undo()
        made.change("p", two)
        self.assertEqual((("p", one), ("p", two)), made.log())

    def test_callers_lists(self):
        made = LoggingTracker("p", "ab")
        made.names() + ("x",), list(made.log()).append(1)
        self.assertEqual((("p",), ()), (made.names(), made.log()))


if __name__ == "__main__":
    unittest.main()
