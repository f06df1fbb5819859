"""mapstack.led: points [51] to [54]."""

import random
import unittest

from mapstack.breakpoints import Breakpoints
from mapstack.composing import composed, through
from mapstack.edits import Edit
from mapstack.errors import BadEdit, BadMap, BadName, TooLarge
from mapstack.led import edited, edited_losses, led, led_losses
from mapstack.maps import ClosedMap, Map
from mapstack.patches import Patch
from tests.editcases import any_edit, any_edit_of
from tests.levelcases import closed_case
from tests.mapcases import FAR, alternating, any_segments, joined, target_by_words
from tests.support import NO_NAMES, fails, grid

NO_MAPS = (True, False, None, 0, -1, "s", b"", (), ("run", 0, 0, "s", 0, 0), [], {}, {"s": Map()}, object())
NO_EDITS = (True, False, None, 0, "", "s", (), ((0, 0), (0, 1), ""), [], {}, Patch(), Map(), object())
IDLE = Edit((0, 0), (0, 0), "")
INSERTION = Edit((0, 2), (0, 2), "new")
# Behind this column nothing changes any more in what is drawn here.
WIDE = 26
PLACES = grid(7, WIDE) + [(0, FAR), (1, FAR), (2, FAR), (3, FAR), (FAR, 0), (FAR, FAR)]


def led_target(target, source, edit):
    """The words of [52]."""
    if target is None or target[0] != source:
        return target
    place = edit.forward(target[1], target[2])
    return None if place is None else (source,) + place + target[3:]


def pairs_of_cases(many, seed, **named):
    chance = random.Random(seed)
    return [(any_segments(chance, lines=3, most=8, **named), any_edit(chance)) for _ in range(many)]


def cases_with_text(many, seed):
    """Segments, a text, and an edit whose low and high are in the text."""
    chance = random.Random(seed)
    found = []
    for _ in range(many):
        text = "".join(chance.choice("ab\n") for _ in range(chance.randrange(14)))
        found.append((any_segments(chance, most=8), text, any_edit_of(chance, text)))
    return found


class EditedTest(unittest.TestCase):
    def test_every_position_has_the_target_of_its_old_one(self):
        for segments, edit in pairs_of_cases(250, 511):
            made = edited(Map(*segments), edit)
            for place in PLACES:
                old = edit.back(*place)
                expected = None if old is None else target_by_words(segments, *old)
                self.assertEqual(expected, made(*place), (segments, edit.low, edit.high, edit.fresh, place))

    def test_within_a_line(self):
        own = Map(("run", 0, 0, "s", 0, 0), ("point", 0, 5, "t", 3, 3, "w"))
        for edit, expected in (
            (INSERTION, [("run", 0, 0, "s", 0, 0), ("gap", 0, 2), ("run", 0, 5, "s", 0, 2), ("point", 0, 8, "t", 3, 3, "w")]),
            (Edit((0, 2), (0, 4), ""), [("run", 0, 0, "s", 0, 0), ("run", 0, 2, "s", 0, 4), ("point", 0, 3, "t", 3, 3, "w")]),
            (Edit((0, 4), (0, 7), ""), [("run", 0, 0, "s", 0, 0), ("point", 0, 4, "t", 3, 3, "w")]),
            (Edit((0, 0), (0, 6), "x"), [("point", 0, 1, "t", 3, 3, "w")]),
        ):
            self.assertEqual(expected, list(edited(own, edit).pieces()))

    def test_over_lines(self):
        own = Map.onto("s", 4)
        split = edited(own, Edit((1, 3), (1, 3), "a\nbc"))
        self.assertEqual([
            ("run", 0, 0, "s", 0, 0), ("run", 1, 0, "s", 1, 0), ("gap", 1, 3), ("run", 2, 2, "s", 1, 3),
            ("run", 3, 0, "s", 2, 0), ("run", 4, 0, "s", 3, 0),
        ], list(split.pieces()))
        united = edited(own, Edit((0, 3), (2, 1), ""))
        self.assertEqual(
            [("run", 0, 0, "s", 0, 0), ("run", 0, 3, "s", 2, 1), ("run", 1, 0, "s", 3, 0)], list(united.pieces())
        )

    def test_far_out_and_behind_all_pieces(self):
        own = Map(("run", 0, 0, "s", 0, 0), ("run", 1, 4, "s", 1, 0))
        far = edited(own, Edit((0, FAR - 2), (0, FAR - 2), "x"))
        self.assertEqual([("s", 0, FAR - 3, None), None, ("s", 0, FAR - 2, None), ("s", 0, FAR - 1, None)],
                         [far(0, FAR - by) for by in (3, 2, 1, 0)])
        self.assertEqual(own[1], far[1])
        self.assertTrue(edited(own, Edit((9, 0), (FAR, FAR), "a\nb")) == own)
        beyond = 10 ** 40
        wide = edited(own, Edit((0, beyond), (1, 6), ""))
        self.assertEqual(("run", 0, beyond, "s", 1, 2), wide[0][-1])
        self.assertEqual((1, ()), (len(list(wide.used_lines())), wide[1]))
        lower = edited(wide, Edit((0, 0), (0, 0), "\n" * 1000))
        self.assertEqual([("run", 1000, 0, "s", 0, 0), ("run", 1000, beyond, "s", 1, 2)], list(lower.pieces()))

    def test_idle_edits_change_nothing(self):
        for segments, edit in pairs_of_cases(40, 512):
            own = Map(*segments)
            idle = Edit(edit.low, edit.low, "")
            self.assertTrue(edited(own, idle) == own)
            self.assertEqual([], list(edited_losses(own, idle)))

    def test_closed_maps_and_what_is_made(self):
        chance = random.Random(513)
        for _ in range(60):
            shut, plain = closed_case(chance)
            edit = any_edit(chance)
            self.assertEqual(edited(plain, edit), edited(shut, edit))
            self.assertIs(Map, type(edited(shut, edit)))
            self.assertEqual(list(edited_losses(plain, edit)), list(edited_losses(shut, edit)))
            self.assertIs(Map, type(edited(shut, IDLE)))

    def test_too_many_pieces(self):
        own = Map(*alternating(10000))
        self.assertEqual(10000, len(edited(own, IDLE)))
        self.assertEqual(10000, len(edited(own, Edit((0, 10), (0, 11), "x"))))
        fails(self, TooLarge, "limit", 10000, edited, own, Edit((0, 10), (0, 10), "x"))
        self.assertEqual(10000, len(own))

    def test_map_stays(self):
        own = Map(("run", 0, 0, "s", 0, 0))
        edited(own, INSERTION), led(own, "s", INSERTION)
        self.assertEqual([("run", 0, 0, "s", 0, 0)], list(own.pieces()))


class LedTest(unittest.TestCase):
    def test_every_target_moves_or_is_lost(self):
        for segments, edit in pairs_of_cases(250, 521):
            own = Map(*segments)
            for source in "stu":
                made = led(own, source, edit)
                for place in PLACES:
                    expected = led_target(target_by_words(segments, *place), source, edit)
                    self.assertEqual(expected, made(*place), (segments, edit.low, edit.high, edit.fresh, place))

    def test_runs_and_points(self):
        own = Map(("run", 0, 0, "s", 0, 0), ("point", 0, 5, "s", 0, 2, "w"), ("run", 1, 3, "t", 0, 0))
        self.assertEqual([
            ("run", 0, 0, "s", 0, 0), ("run", 0, 2, "s", 0, 5), ("point", 0, 5, "s", 0, 5, "w"),
            ("run", 1, 3, "t", 0, 0),
        ], list(led(own, "s", INSERTION).pieces()))
        self.assertEqual([
            ("run", 0, 0, "s", 0, 0), ("gap", 0, 2), ("run", 0, 3, "s", 0, 2), ("gap", 0, 5), ("run", 1, 3, "t", 0, 0),
        ], list(led(own, "s", Edit((0, 2), (0, 3), "")).pieces()))
        self.assertEqual([
            ("run", 0, 0, "s", 0, 0), ("run", 0, 1, "s", 1, 1), ("point", 0, 5, "s", 1, 2, "w"), ("run", 1, 3, "t", 0, 0),
        ], list(led(own, "s", Edit((0, 1), (0, 1), "\n ")).pieces()))

    def test_columns_without_end_move(self):
        own = Map(("run", 0, 3, "s", 2, 1, "w"), ("run", 1, 0, "s", 2, 50))
        made = led(own, "s", Edit((2, 10), (2, 20), "x"))
        self.assertEqual([
            ("run", 0, 3, "s", 2, 1, "w"), ("gap", 0, 12), ("run", 0, 22, "s", 2, 11, "w"), ("run", 1, 0, "s", 2, 41),
        ], list(made.pieces()))
        self.assertEqual(("s", 2, FAR - 11, "w"), made(0, FAR))
        low_alone = led(own, "s", Edit((2, 10), (3, 0), ""))
        self.assertEqual([("run", 0, 3, "s", 2, 1, "w"), ("gap", 0, 12)], list(low_alone.pieces()))
        high_alone = led(own, "s", Edit((1, 7), (2, 5), "ab"))
        self.assertEqual([("run", 0, 7, "s", 1, 9, "w"), ("run", 1, 0, "s", 1, 54)], list(high_alone.pieces()))
        lines_behind = led(own, "s", Edit((0, 0), (1, 0), ""))
        self.assertEqual([("run", 0, 3, "s", 1, 1, "w"), ("run", 1, 0, "s", 1, 50)], list(lines_behind.pieces()))

    def test_far_out(self):
        own = Map(("run", 0, 0, "s", FAR, FAR), ("run", 1, 0, "s", 0, 0))
        grown = led(own, "s", Edit((FAR, 0), (FAR, 0), "ab\n"))
        self.assertEqual(("s", FAR + 1, 2 * FAR, None), grown(0, FAR))
        again = led(grown, "s", Edit((FAR + 1, FAR + 7), (FAR + 1, FAR + 8), ""))
        self.assertEqual([
            ("run", 0, 0, "s", FAR + 1, FAR), ("gap", 0, 7), ("run", 0, 8, "s", FAR + 1, FAR + 7),
            ("run", 1, 0, "s", 0, 0),
        ], list(again.pieces()))
        self.assertEqual([(0, 7, 8)], list(led_losses(grown, "s", Edit((FAR + 1, FAR + 7), (FAR + 1, FAR + 8), ""))))

    def test_idle_edits_and_other_sources_change_nothing(self):
        for segments, edit in pairs_of_cases(40, 522):
            own = Map(*segments)
            self.assertTrue(led(own, "s", Edit(edit.low, edit.low, "")) == own)
            self.assertTrue(led(own, "none", edit) == own)
            self.assertEqual([], list(led_losses(own, "none", edit)))
            self.assertEqual(own.without("s"), led(own, "s", edit).without("s"))

    def test_closed_maps_and_what_is_made(self):
        chance = random.Random(523)
        for _ in range(60):
            shut, plain = closed_case(chance)
            edit = any_edit(chance)
            self.assertEqual(led(plain, "s", edit), led(shut, "s", edit))
            self.assertIs(Map, type(led(shut, "s", edit)))
            self.assertIs(Map, type(led(shut, "none", IDLE)))
            self.assertEqual(list(led_losses(plain, "s", edit)), list(led_losses(shut, "s", edit)))

    def test_too_many_pieces(self):
        own = Map(*alternating(10000))
        last = own[1][-1]
        at = (last[4], last[5] + 7)
        self.assertEqual(10000, len(led(own, "s", Edit((0, 0), (0, 0), "x"))))
        fails(self, TooLarge, "limit", 10000, led, own, "s", Edit(at, at, "x"))


class LossesTest(unittest.TestCase):
    def test_edited_losses_at_every_position(self):
        for segments, edit in pairs_of_cases(250, 531):
            expected = []
            for line in range(4):
                places = [(line, column) for column in range(WIDE)]
                flags = [edit.forward(*place) is None and target_by_words(segments, *place) is not None
                         for place in places]
                expected += joined(flags, line)
            self.assertEqual(expected, list(edited_losses(Map(*segments), edit)))

    def test_led_losses_at_every_position(self):
        for segments, edit in pairs_of_cases(250, 532):
            for source in "st":
                expected = []
                for line in range(4):
                    flags = []
                    for column in range(WIDE):
                        target = target_by_words(segments, line, column)
                        flags.append(target is not None and led_target(target, source, edit) is None)
                    expected += joined(flags, line)
                self.assertEqual(expected, list(led_losses(Map(*segments), source, edit)))

    def test_without_end(self):
        own = Map(("run", 0, 2, "s", 1, 4), ("run", 1, 0, "s", 1, 0), ("gap", 1, 5), ("point", 1, 9, "s", 1, 6))
        over = Edit((0, 4), (1, 7), "")
        self.assertEqual([(0, 4, None), (1, 0, 5)], list(edited_losses(own, over)))
        self.assertEqual([(0, 4, None), (1, 0, 5), (1, 9, 12)], list(edited_losses(own, Edit((0, 4), (1, 12), ""))))
        self.assertEqual([(0, 2, None), (1, 0, 5), (1, 9, None)], list(edited_losses(own, Edit((0, 0), (2, 0), ""))))
        self.assertEqual([(0, 4, None), (1, 9, None)], list(led_losses(own, "s", Edit((1, 6), (2, 0), ""))))
        self.assertEqual([(0, 2, None), (1, 0, 5), (1, 9, None)], list(led_losses(own, "s", Edit((1, 0), (5, 0), ""))))

    def test_neighbors_are_joined(self):
        own = Map(("run", 0, 0, "s", 0, 0), ("point", 0, 3, "t", 0, 0, "w"), ("run", 0, 6, "s", 0, 0, "v"), ("gap", 0, 8))
        self.assertEqual([(0, 1, 8)], list(edited_losses(own, Edit((0, 1), (0, 99), ""))))
        self.assertEqual([(0, 0, 1), (0, 6, 7)], list(led_losses(own, "s", Edit((0, 0), (0, 1), "ab"))))
        self.assertEqual([(0, 0, 3), (0, 6, 8)], list(led_losses(own, "s", Edit((0, 0), (1, 0), "ab"))))

    def test_raised_when_the_first_one_is_requested(self):
        for losses in (edited_losses(None, IDLE), led_losses(None, "s", IDLE)):
            with self.assertRaises(BadMap):
                next(losses)


class FactsTest(unittest.TestCase):
    def test_both_kinds_of_edits_can_be_exchanged(self):
        chance = random.Random(541)
        for segments, edit in pairs_of_cases(200, 542):
            own, other = Map(*segments), any_edit(chance)
            one_way = led(edited(own, edit), "s", other)
            self.assertEqual(list(one_way.pieces()), list(edited(led(own, "s", other), edit).pieces()))

    def test_an_edit_and_its_opposite(self):
        for segments, text, edit in cases_with_text(200, 543):
            own, back = Map(*segments), edit.opposite(text)
            again = edited(edited(own, edit), back)
            self.assertEqual(list(edited_losses(own, edit)), list(own.unlike(again)))
            for line, first, _ in own.unlike(again):
                self.assertIsNone(again(line, first))
            led_again = led(led(own, "s", edit), "s", back)
            self.assertEqual(list(led_losses(own, "s", edit)), list(own.unlike(led_again)))

    def test_composing_with_an_edited_map_in_between(self):
        chance = random.Random(544)
        for segments, edit in pairs_of_cases(150, 545):
            outer = Map(*segments)
            inner = Map(*any_segments(chance, lines=3, most=8, sources="xy"))
            before = through(outer, {"s": inner})
            behind = through(led(outer, "s", edit), {"s": edited(inner, edit)})
            losses = list(led_losses(outer, "s", edit))
            for place in PLACES:
                lost = any(row[0] == place[0] and row[1] <= place[1] and (row[2] is None or place[1] < row[2])
                           for row in losses)
                self.assertEqual(None if lost else before(*place), behind(*place))

    def test_breakpoints_that_follow(self):
        chance = random.Random(546)
        for segments, edit in pairs_of_cases(80, 547):
            own = Map(*segments)
            made = Breakpoints(own, reach=3)
            places = [(source, chance.randrange(3), chance.randrange(9)) for source in "sst"]
            numbers = [made.put(*place) for place in places]
            new_map = led(own, "s", edit)
            was_bound = [made.bound(number) for number in numbers]
            made.follow(new_map, source="s", edit=edit)
            for number, place, bound in zip(numbers, places, was_bound):
                asked = place
                if place[0] == "s":
                    asked = ("s",) + (edit.forward(*place[1:]) or edit.new_high)
                self.assertEqual(asked, made.asked(number))
                anew = Breakpoints(new_map, reach=3)
                anew.put(*asked)
                self.assertEqual((anew.bound(0), anew.ranges(0)), (made.bound(number), made.ranges(number)))
                if bound == place and place[0] == "s" and edit.forward(*place[1:]) is not None:
                    self.assertEqual(asked, made.bound(number))

    def test_edits_of_a_patch_one_behind_the_other(self):
        own = Map.onto("s", 3)
        patch = Patch(Edit((0, 1), (0, 2), "xy\n"), Edit((1, 0), (1, 3), ""), Edit((2, 4), (2, 4), "z"))
        made = own
        for edit in reversed(list(patch.each())):
            made = edited(made, edit)
        for place in grid(6, WIDE):
            old = patch.back(*place)
            self.assertEqual(None if old is None else own(*old), made(*place))

    def test_composed_without_levels_is_no_closed_map(self):
        shut = ClosedMap((4,), (("run", 0, 0, "s", 0, 0),))
        self.assertEqual(edited(composed(shut), INSERTION), edited(shut, INSERTION))


class WrongTest(unittest.TestCase):
    def test_wrong_values(self):
        own = Map(("run", 0, 0, "s", 0, 0))
        for value in NO_MAPS:
            fails(self, BadMap, "given", value, edited, value, IDLE)
            fails(self, BadMap, "given", value, led, value, "s", IDLE)
            fails(self, BadMap, "given", value, lambda: list(edited_losses(value, IDLE)))
            fails(self, BadMap, "given", value, lambda: list(led_losses(value, "s", IDLE)))
        for value in NO_NAMES:
            fails(self, BadName, "given", value, led, own, value, IDLE)
            fails(self, BadName, "given", value, lambda: list(led_losses(own, value, IDLE)))
        for value in NO_EDITS:
            fails(self, BadEdit, "index", None, edited, own, value)
            fails(self, BadEdit, "index", None, led, own, "s", value)
            fails(self, BadEdit, "index", None, lambda: list(edited_losses(own, value)))
            fails(self, BadEdit, "index", None, lambda: list(led_losses(own, "s", value)))

    def test_several_at_once(self):
        own = Map()
        fails(self, BadMap, "given", None, edited, None, None)
        fails(self, BadMap, "given", 0, led, 0, "", None)
        fails(self, BadName, "given", "", led, own, "", None)
        fails(self, BadMap, "given", 0, lambda: list(led_losses(0, "", None)))
        fails(self, BadName, "given", "", lambda: list(led_losses(own, "", None)))

    def test_by_name(self):
        own = Map(("run", 0, 0, "s", 0, 0))
        self.assertEqual(edited(own, INSERTION), edited(edit=INSERTION, map_here=own))
        self.assertEqual(led(own, "s", INSERTION), led(edit=INSERTION, source="s", map_here=own))
        self.assertEqual([], list(edited_losses(edit=INSERTION, map_here=own)))
        self.assertEqual([], list(led_losses(edit=INSERTION, source="s", map_here=own)))


if __name__ == "__main__":
    unittest.main()
