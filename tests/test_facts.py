"""Facts that rest on several files: points [28], [36], [46] and [54], with the maps that tools make.

That of [69] stands in test_pipelines, and those of single files beside their other tests.
"""

import random
import unittest

from mapstack.breakpoints import Breakpoints
from mapstack.bundles import Bundle, cut
from mapstack.composing import composed, joined_levels, shaken, through
from mapstack.edits import Edit
from mapstack.fingerprints import Dated
from mapstack.images import Images
from mapstack.led import edited, edited_losses, led, led_losses
from mapstack.maps import Map
from mapstack.maptexts import map_text, read_map
from mapstack.pipelines import Pipeline
from mapstack.stacks import Stack
from mapstack.tools import Expanding, Including, Shortening, Stripping, Wrapping
from mapstack.trackers import Tracker
from tests.editcases import any_edit_of, place_at
from tests.progcases import any_program

TEXTS = {"t": "alpha = 1 # t\nbeta\n", "u": "use t\n\"s\" x1"}


def pipelines(many, seed):
    """Pipelines of several tools, over programs with let lines and use lines."""
    chance = random.Random(seed)
    found = []
    for _ in range(many):
        rows = any_program(chance, ("alpha", "beta", "b", "x1")).split("\n")
        rows.insert(chance.randrange(len(rows) + 1), "let b = alpha + 1 # c")
        rows.insert(chance.randrange(len(rows) + 1), chance.choice(("use t", " use  u # c")))
        made = Pipeline("\n".join(rows), "p")
        made.apply(Expanding(), Including(TEXTS))
        made.apply(*chance.sample((Stripping(), Shortening(), Wrapping(6), Shortening("a")), chance.randrange(1, 4)))
        found.append(made)
    return found


def levels_of(made):
    """The levels by which the last step of a pipeline is led to the first texts."""
    last = len(made)
    return [{f"p/{number}": made.step_map(number)} for number in range(last - 1, 0, -1)]


def places_of(text):
    return [place_at(text, index) for index in range(len(text) + 1)]


class ComposingTest(unittest.TestCase):
    def test_through_one_level_and_another_is_through_the_joined_one(self):
        for made in pipelines(25, 281):
            outer, levels = made.step_map(len(made)), levels_of(made)
            origin = made.origin_map()
            self.assertEqual(origin, through(outer, joined_levels(*levels)))
            for number in range(len(levels) + 1):
                one, other = joined_levels(*levels[:number]), joined_levels(*levels[number:])
                self.assertEqual(origin, composed(outer, one, other))
                self.assertEqual(joined_levels(*levels), joined_levels(one, other))
            self.assertEqual(origin, through(outer, shaken(outer, joined_levels(*levels))))

    def test_stacks_tell_what_pipelines_tell(self):
        for made in pipelines(15, 282):
            stack = Stack(made.step_map(len(made)), *levels_of(made))
            origin = made.origin_map()
            self.assertEqual(origin, stack.flattened())
            for line, column in places_of(made[len(made)]):
                self.assertEqual(origin(line, column), stack(line, column))


class ImagesTest(unittest.TestCase):
    def test_each_position_is_in_the_images_of_its_target_alone(self):
        for made in pipelines(15, 361):
            origin = made.origin_map()
            images = Images(origin)
            targets = {}
            for line, column in places_of(made[len(made)]):
                target = origin(line, column)
                if target is not None:
                    targets.setdefault(target[:3], []).append((line, column))
            for target, places in targets.items():
                told = [(line, column) for line, first, behind in images(*target) for column in range(first, behind)]
                self.assertEqual(places, told)
            covered = {(source, line, column) for source in origin.sources()
                       for line, ranges in images.covered_lines(source)
                       for _, first, behind in ranges for column in range(first, behind)}
            self.assertEqual(set(targets), covered)

    def test_images_of_composed_maps(self):
        for made in pipelines(15, 362):
            outer, inner = made.step_map(len(made)), joined_levels(*levels_of(made))
            complete = {**inner, **{name: Map.onto(name, 50) for name in outer.sources() if name not in inner}}
            images = Images(through(outer, complete))
            outer_images = Images(outer)
            inner_images = {name: Images(own_map) for name, own_map in complete.items()}
            for source in ("p", "t", "u"):
                for line, ranges in list(images.covered_lines(source))[:4]:
                    column = ranges[0][1]
                    places = set()
                    for name, one in inner_images.items():
                        for in_line, first, behind in one(source, line, column):
                            for at in range(first, min(behind or 99, 99)):
                                places |= {(row[0], place) for row in outer_images(name, in_line, at)
                                           for place in range(row[1], row[2])}
                    told = {(row[0], place) for row in images(source, line, column) for place in range(row[1], row[2])}
                    self.assertEqual(told, places)


class BundlesTest(unittest.TestCase):
    def test_cuts_at_any_joints(self):
        chance = random.Random(461)
        for made in pipelines(20, 462):
            text, origin = made[len(made)], made.origin_map()
            joints = tuple(place_at(text, index) for index in sorted(chance.choices(range(len(text) + 1), k=4)))
            bundle = Bundle.cut_up(text, origin, joints)
            self.assertEqual((text, origin), (bundle.whole_text(), bundle.whole_map()))
            begins = list(bundle.joints())
            for number, (part_text, part_map) in enumerate(bundle.parts()):
                self.assertEqual(cut(origin, begins[number], (begins + [place_at(text, len(text))])[number + 1]), part_map)
                self.assertEqual(part_text, bundle[number][0])
            self.assertEqual(origin, read_map(map_text(origin)))


class LedTest(unittest.TestCase):
    def test_edits_of_both_kinds_and_back(self):
        chance = random.Random(541)
        for made in pipelines(25, 542):
            text, origin = made[len(made)], made.origin_map()
            edit, other = any_edit_of(chance, text), any_edit_of(chance, made[0])
            self.assertEqual(led(edited(origin, edit), "p", other), edited(led(origin, "p", other), edit))
            again = edited(edited(origin, edit), edit.opposite(text))
            self.assertEqual(list(edited_losses(origin, edit)), list(origin.unlike(again)))
            led_again = led(led(origin, "p", other), "p", other.opposite(made[0]))
            self.assertEqual(list(led_losses(origin, "p", other)), list(origin.unlike(led_again)))

    def test_trackers_dated_maps_and_breakpoints_go_along(self):
        chance = random.Random(543)
        for made in pipelines(20, 544):
            number = len(made)
            tracker = Tracker("p", made[0])
            for at in range(1, number + 1):
                name = f"p/{at}"
                tracker.add(name, made[at], made.step_map(at))
            self.assertEqual(made.origin_map(), tracker.flat())
            edit = any_edit_of(chance, made[0])
            dated = Dated(made.step_map(1), made[1], {"p": made[0]})
            new_text = edit(made[0])
            breakpoints = Breakpoints(made.step_map(1))
            asked = any_edit_of(chance, made[0]).low
            breakpoints.put("p", *asked)
            tracker.change("p", edit)
            self.assertEqual(led(made.origin_map(), "p", edit), tracker.flat())
            change = Edit.between(made[0], new_text)
            renewed = dated.renewed("p", made[0], new_text)
            self.assertEqual(led(made.step_map(1), "p", change), renewed.own_map())
            breakpoints.follow(tracker.map_of("p/1"), source="p", edit=edit)
            anew = Breakpoints(tracker.map_of("p/1"))
            anew.put("p", *(edit.forward(*asked) or edit.new_high))
            self.assertEqual(anew.bound(0), breakpoints.bound(0))
            tracker.undo()
            self.assertEqual(made.origin_map(), tracker.flat())


if __name__ == "__main__":
    unittest.main()
