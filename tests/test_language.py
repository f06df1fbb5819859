"""The package keeps to the rules of the language subset, as far as a short check can tell."""

import ast
import os
import re
import unittest

FOLDER = os.path.join(os.path.dirname(os.path.dirname(os.path.abspath(__file__))), "mapstack")
BUILTINS = set(
    "len range enumerate zip min max sum abs sorted reversed int str bool list tuple dict set isinstance ord repr any"
    " all divmod ValueError TypeError KeyError IndexError LookupError OverflowError RuntimeError NotImplemented"
    " super property staticmethod classmethod".split()
)
METHODS = set(
    "append clear copy count endswith extend find get index insert isalnum isalpha isdigit islower isspace isupper"
    " items join keys ljust lower lstrip partition pop remove replace reverse rfind rjust rpartition rsplit rstrip"
    " setdefault split splitlines startswith strip update upper values zfill bit_length isascii".split()
)
DUNDERS = set(
    "__init__ __eq__ __len__ __call__ __iter__ __add__ __or__ __contains__ __getitem__ __bool__".split()
)
BARRED = set(
    "type typing typing_extensions enum Enum IntEnum StrEnum Flag IntFlag Generic Protocol ABC ABCMeta namedtuple"
    " NamedTuple TypedDict TYPE_CHECKING abstractmethod".split()
)
NEVER = set("register mro elements open input law version_info with_traceback add_note".split())
INTERFACE = {
    "errors": "BadPlace BadText BadSegment BadName BadNumber BadMap BadEdit BadPart BadBuilder BadAlphabet BadProgram"
              " NothingLeft Clash Stale Ring TooLarge NoText NoPlace NoLevel"
              " MapError StackError BoundError AbsentError",
    "texts": "lines_of extent_of added behind end_of has_place index_of place_of part_of",
    "edits": "Edit Edit.__init__ Edit.low Edit.high Edit.fresh Edit.new_high Edit.is_idle Edit.forward Edit.back"
             " Edit.__call__ Edit.opposite Edit.between Edit.__eq__",
    "patches": "Patch Patch.__init__ Patch.in_turn Patch.of_lines Patch.__getitem__ Patch.__len__ Patch.each"
               " Patch.forward Patch.back Patch.__call__ Patch.opposite Patch.__eq__ Patch.__add__ Patch.merged"
               " Patch.led",
    "maps": "is_source is_position is_segment is_target Map Map.__init__ Map.of Map.unbounded Map.__call__"
            " Map.__getitem__ Map.__len__ Map.__bool__ Map.__contains__ Map.__eq__ Map.__or__ Map.pieces Map.used_lines"
            " Map.sources Map.words Map.closed Map.placed Map.unlike Map.first_unlike Map.only Map.without Map.renamed"
            " Map.worded Map.identity Map.onto Map.least ClosedMap ClosedMap.__init__ ClosedMap.lengths"
            " ClosedMap.__call__ ClosedMap.__getitem__ ClosedMap.share ClosedMap.grown",
    "codes": "folded unfolded Alphabet Alphabet.__init__ Alphabet.standard Alphabet.__call__ Alphabet.signed"
             " Alphabet.codes Alphabet.__contains__ Alphabet.__getitem__ Alphabet.__len__ Alphabet.__eq__"
             " Alphabet.numbers_in Alphabet.signed_in Alphabet.translated",
    "maptexts": "map_text read_map segments_in first_wrong is_map_text Decoder Decoder.__init__ Decoder.feed"
                " Decoder.finish Decoder.taken Decoder.is_complete Decoder.accepts Decoder.follows Decoder.copy",
    "composing": "through composed joined_levels shaken cuts",
    "stacks": "Stack Stack.__init__ Stack.of_maps Stack.__call__ Stack.chain Stack.word_level Stack.from_level"
              " Stack.flattened Stack.add_level Stack.drop_level Stack.put_level Stack.take_level Stack.set_map Stack.undo"
              " Stack.looked_with Stack.undoable Stack.__len__ Stack.__getitem__ Stack.__contains__ Stack.__eq__"
              " Stack.twin NotingStack NotingStack.__call__ NotingStack.notes NotingStack.forget_notes",
    "images": "joined_ranges Images Images.__init__ Images.__call__ Images.__contains__ Images.__len__ Images.coverage"
              " Images.covered_lines Images.words_at Images.neighbors Images.last_place WordImages WordImages.__init__"
              " WordImages.of_all",
    "breakpoints": "Breakpoints Breakpoints.__init__ Breakpoints.put Breakpoints.clear Breakpoints.asked"
                   " Breakpoints.bound Breakpoints.ranges Breakpoints.numbers Breakpoints.hits Breakpoints.follow"
                   " Breakpoints.copy",
    "traces": "frames_of trace_text Stepper Stepper.__init__ Stepper.step Stepper.set_way Stepper.way Stepper.base"
              " Stepper.stops Stepper.copy BreakStepper BreakStepper.__init__ BreakStepper.step BreakStepper.set_way"
              " BreakStepper.copy",
    "bundles": "cut Bundle Bundle.__init__ Bundle.of Bundle.whole_text Bundle.whole_map Bundle.parts Bundle.joints"
               " Bundle.__len__ Bundle.__getitem__ Bundle.__add__ Bundle.__eq__ Bundle.__bool__ Bundle.lies_in"
               " Bundle.stands_at Bundle.cut_up",
    "builders": "Builder Builder.__init__ Builder.plain Builder.copied Builder.pointed Builder.__call__ Builder.deeper"
                " Builder.flatter Builder.added Builder.whole_text Builder.whole_map Builder.as_part Builder.levels"
                " Builder.__len__ Builder.__bool__ Builder.step_count Builder.undo Builder.copy Builder.__eq__"
                " MarkedBuilder MarkedBuilder.__init__ MarkedBuilder.mark MarkedBuilder.place_of MarkedBuilder.marks"
                " MarkedBuilder.put_in",
    "led": "edited led edited_losses led_losses",
    "fingerprints": "checksum Fingerprint Fingerprint.__init__ Fingerprint.lengths Fingerprint.checksums"
                    " Fingerprint.first_stale Fingerprint.__len__ Fingerprint.__getitem__ Fingerprint.__eq__"
                    " Dated Dated.__init__ Dated.own_map Dated.stale Dated.renewed",
    "trackers": "Tracker Tracker.__init__ Tracker.add Tracker.change Tracker.change_all Tracker.drop_last Tracker.undo"
                " Tracker.redo Tracker.names Tracker.text_of Tracker.map_of Tracker.trail Tracker.flat Tracker.__len__"
                " Tracker.__contains__ Tracker.__eq__ Tracker.copy LoggingTracker LoggingTracker.__init__"
                " LoggingTracker.log",
    "tokens": "tokens spelled",
    "tools": "Tool Tool.__call__ Tool.new_text Stripping Stripping.__call__ Stripping.new_text Shortening"
             " Shortening.__init__ Shortening.__call__ Shortening.new_text Shortening.new_words Including"
             " Including.__init__ Including.__call__ Including.new_text Expanding Expanding.__call__ Expanding.new_text"
             " Wrapping Wrapping.__init__ Wrapping.__call__ Wrapping.new_text restored",
    "pipelines": "Pipeline Pipeline.__init__ Pipeline.apply Pipeline.tried Pipeline.take_back Pipeline.__len__"
                 " Pipeline.__getitem__ Pipeline.titles Pipeline.step_map Pipeline.origin_map Pipeline.origins",
    "session": "Session Session.__init__ Session.execute Session.run Session.tracker",
}
SORTS = {
    "property": "Edit.low Edit.high Edit.fresh Edit.new_high Edit.is_idle ClosedMap.lengths Decoder.taken"
                " Decoder.is_complete Stack.undoable Stepper.way Stepper.base Stepper.stops Builder.levels"
                " Fingerprint.lengths Fingerprint.checksums",
    "classmethod": "Edit.between Patch.in_turn Patch.of_lines Map.of Map.unbounded Map.identity Map.onto"
                   " Alphabet.standard Stack.of_maps Stack._of_levels WordImages.of_all Bundle.of Bundle.cut_up"
                   " Builder._new Tracker._begun",
    "staticmethod": "Map.least",
}
GENERATORS = (
    "Patch.each Map.pieces Map.used_lines Map.unlike Alphabet.numbers_in Alphabet.signed_in segments_in cuts Stack.chain"
    " Images.covered_lines Bundle.parts Bundle.joints edited_losses led_losses Tracker.trail"
    " tokens Pipeline.origins"
)


def files():
    found = {}
    for name in sorted(os.listdir(FOLDER)):
        if name != "__pycache__":
            with open(os.path.join(FOLDER, name), encoding="utf-8") as held:
                found[name] = held.read()
    return found


FILES = files()
TREES = {name[:-3]: ast.parse(source) for name, source in FILES.items()}


def nodes(kind):
    return [(name, node) for name, tree in TREES.items() for node in ast.walk(tree) if isinstance(node, kind)]


def defined(tree):
    """The names of functions and classes, and of methods behind the name of their class."""
    names = [node.name for node in tree.body if isinstance(node, (ast.FunctionDef, ast.ClassDef))]
    for node in tree.body:
        if isinstance(node, ast.ClassDef):
            names += [f"{node.name}.{row.name}" for row in node.body if isinstance(row, ast.FunctionDef)]
    return names


def yields(function):
    return any(isinstance(node, (ast.Yield, ast.YieldFrom)) for node in ast.walk(function))


class LanguageTest(unittest.TestCase):
    def test_interface_stands_in_its_file(self):
        for name, listed in INTERFACE.items():
            missing = set(listed.split()) - set(defined(TREES[name]))
            self.assertEqual(set(), missing, name)

    def test_kinds_of_methods(self):
        found = {sort: set() for sort in SORTS}
        generators = set()
        for _, tree in TREES.items():
            rows = [(node.name, node) for node in tree.body if isinstance(node, ast.FunctionDef)]
            for node in tree.body:
                if isinstance(node, ast.ClassDef):
                    rows += [(f"{node.name}.{row.name}", row) for row in node.body if isinstance(row, ast.FunctionDef)]
            for name, row in rows:
                for decorator in row.decorator_list:
                    found[decorator.id].add(name)
                if yields(row):
                    generators.add(name)
        self.assertEqual({sort: set(names.split()) for sort, names in SORTS.items()}, found)
        self.assertEqual(set(GENERATORS.split()), generators)

    def test_files_and_characters(self):
        for name, source in FILES.items():
            self.assertRegex(name, r"^[a-z_][a-z0-9_]*\.py$")
            self.assertIsNone(re.search(r"[^ -~\n]", source), name)
            rows = source.split("\n")
            self.assertLess(len(rows), 401, name)
            self.assertLess(max(map(len, rows)), 121, name)

    def test_functions_are_short(self):
        for name, node in nodes(ast.FunctionDef):
            self.assertLess(node.end_lineno - node.lineno, 40, (name, node.name))

    def test_imports_are_plain_and_make_no_ring(self):
        wanted = {name: [] for name in TREES}
        self.assertEqual([], nodes(ast.Import))
        for name, node in nodes(ast.ImportFrom):
            self.assertEqual(0, node.level)
            package, _, other = node.module.partition(".")
            self.assertEqual("mapstack", package)
            for alias in node.names:
                self.assertIsNone(alias.asname)
                own = [target.id for row in TREES[other].body if isinstance(row, ast.Assign) for target in row.targets]
                self.assertIn(alias.name, defined(TREES[other]) + own)
            wanted[name].append(other)
        while wanted:
            free = [name for name, others in wanted.items() if not [other for other in others if other in wanted]]
            self.assertTrue(free, wanted)
            wanted = {name: others for name, others in wanted.items() if name not in free}

    def test_imported_names_are_used_and_not_bound_again(self):
        for name, tree in TREES.items():
            imported = {alias.name for node in tree.body if isinstance(node, ast.ImportFrom) for alias in node.names}
            names = [node for node in ast.walk(tree) if isinstance(node, ast.Name)]
            used = {node.id for node in names if isinstance(node.ctx, ast.Load)}
            bound = {node.id for node in names if isinstance(node.ctx, ast.Store)}
            bound |= {node.arg for node in ast.walk(tree) if isinstance(node, ast.arg)}
            classes = {node.name for node in tree.body if isinstance(node, ast.ClassDef)}
            self.assertEqual(set(), imported - used, name)
            self.assertEqual(set(), (imported | classes) & bound, name)

    def test_only_listed_builtins_and_no_new_meaning_for_any(self):
        import builtins
        every = set(dir(builtins))
        for name, node in nodes(ast.Name):
            if node.id in every:
                self.assertIn(node.id, BUILTINS, name)
                self.assertIsInstance(node.ctx, ast.Load, (name, node.id))
        for name, node in nodes(ast.arg):
            self.assertNotIn(node.arg, every, name)

    def test_only_listed_methods_of_builtin_values(self):
        own = {node.name for _, node in nodes(ast.FunctionDef)}
        for name, node in nodes(ast.Call):
            if isinstance(node.func, ast.Attribute):
                self.assertIn(node.func.attr, own | METHODS, name)
                if node.func.attr in METHODS - own:
                    self.assertEqual([], node.keywords)

    def test_only_allowed_statements_and_expressions(self):
        barred = (
            ast.AsyncFunctionDef, ast.Await, ast.Global, ast.Nonlocal, ast.Div, ast.Is, ast.IsNot, ast.With, ast.Set,
            ast.GeneratorExp, ast.NamedExpr, ast.Match, ast.AnnAssign,
        )
        for name, node in nodes(barred):
            self.assertIsInstance(node, (ast.Is, ast.IsNot), name)
        for name, node in nodes(ast.Compare):
            for operator, right in zip(node.ops, node.comparators):
                if isinstance(operator, (ast.Is, ast.IsNot)):
                    self.assertIsInstance(right, ast.Constant, name)
        for name, node in nodes(ast.Constant):
            self.assertNotIsInstance(node.value, float)
            if isinstance(node.value, str):
                self.assertNotIn("%", node.value)

    def test_decorators_and_dunders(self):
        for name, node in nodes(ast.FunctionDef):
            self.assertLess(len(node.decorator_list), 2)
            for row in node.decorator_list:
                self.assertIn(getattr(row, "id", ""), {"property", "staticmethod", "classmethod"})
            if node.name.startswith("__"):
                self.assertIn(node.name, DUNDERS, name)

    def test_items_come_with_a_refused_iteration(self):
        for name, node in nodes(ast.ClassDef):
            names = [row.name for row in node.body if isinstance(row, ast.FunctionDef)]
            self.assertEqual(len(set(names)), len(names))
            bases = [base.id for base in node.bases]
            if "__getitem__" in names and not bases:
                self.assertIn("__iter__", names, (name, node.name))

    def test_generators_and_properties_share_their_names_with_nothing(self):
        functions = [node for _, node in nodes(ast.FunctionDef)]
        generators = [node.name for node in functions if yields(node)]
        others = [node.name for node in functions if not yields(node)]
        self.assertEqual(set(), set(generators) & set(others))
        properties = {name.rpartition(".")[2] for name in SORTS["property"].split()}
        plain = {node.name for node in functions if not node.decorator_list}
        stored = {node.attr for _, node in nodes(ast.Attribute) if isinstance(node.ctx, ast.Store)}
        self.assertEqual(set(), properties & (plain | stored))

    def test_no_name_is_a_method_and_an_attribute(self):
        methods = {row.name for _, node in nodes(ast.ClassDef) for row in node.body if isinstance(row, ast.FunctionDef)}
        stored = {node.attr for _, node in nodes(ast.Attribute) if isinstance(node.ctx, ast.Store)}
        read = {node.attr for _, node in nodes(ast.Attribute) if isinstance(node.ctx, ast.Load)}
        constants = {"MARKS", "STANDARD", "TITLE"}
        self.assertEqual(set(), methods & stored)
        self.assertEqual(set(), read - stored - methods - METHODS - constants)

    def test_generators_are_iterated_where_they_are_called(self):
        generators = {name.rpartition(".")[2] for name in GENERATORS.split()}
        for name, tree in TREES.items():
            iterated = [node.iter for node in ast.walk(tree) if isinstance(node, (ast.For, ast.comprehension))]
            for node in ast.walk(tree):
                if isinstance(node, ast.Call) and getattr(node.func, "id", "") in {"list", "tuple", "sorted"}:
                    iterated += node.args[:1]
            called = [node for node in ast.walk(tree) if isinstance(node, ast.Call)]
            for node in called:
                if getattr(node.func, "attr", getattr(node.func, "id", "")) in generators:
                    self.assertIn(node, iterated, (name, node.lineno))

    def test_barred_words(self):
        for name, node in nodes((ast.Name, ast.Attribute, ast.arg, ast.FunctionDef, ast.ClassDef, ast.keyword)):
            for field in ("id", "attr", "arg", "name"):
                self.assertNotIn(getattr(node, field, None), BARRED | NEVER, name)
        for name, node in nodes(ast.Constant):
            if isinstance(node.value, str) and " " not in node.value:
                self.assertNotIn(node.value, BARRED, name)


if __name__ == "__main__":
    unittest.main()
