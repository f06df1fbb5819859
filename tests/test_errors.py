"""mapstack.errors: bases and fields."""

import unittest

from mapstack import errors

FIELDS = {
    "MapError": {
        "BadPlace": "given", "BadText": "place_index", "BadSegment": "index", "BadName": "given",
        "BadNumber": "given", "BadMap": "given", "BadEdit": "index", "BadPart": "index", "BadBuilder": "given",
        "BadAlphabet": "given", "BadProgram": "spot",
    },
    "StackError": {"NothingLeft": None, "Clash": "given", "Stale": "spot", "Ring": "path"},
    "BoundError": {"TooLarge": "limit"},
    "AbsentError": {"NoText": "given", "NoPlace": "given", "NoLevel": "given"},
}
BUILTIN_BASES = {
    "MapError": ValueError, "StackError": RuntimeError, "BoundError": OverflowError, "AbsentError": LookupError,
}
ROWS = [(base, name, field) for base, row in FIELDS.items() for name, field in row.items()]
ALL_NAMES = list(FIELDS) + [name for _, name, _ in ROWS]


def made(name, field, worth):
    error = getattr(errors, name)
    return error() if field is None else error(worth)


class ErrorsTest(unittest.TestCase):
    def test_bases_derive_from_the_builtin_errors(self):
        for name, base in BUILTIN_BASES.items():
            self.assertEqual((base,), getattr(errors, name).__bases__)

    def test_fields_hold_the_very_value(self):
        for worth in (None, 0, (1, 2), ["x"], "text", object()):
            for _, name, field in ROWS:
                if field is not None:
                    self.assertIs(worth, getattr(made(name, field, worth), field), name)

    def test_field_is_the_only_one(self):
        for _, name, field in ROWS:
            expected = {} if field is None else {field: 5}
            self.assertEqual(expected, vars(made(name, field, 5)), name)

    def test_instance_of_its_base_and_of_no_other_class(self):
        for base, name, field in ROWS:
            error = made(name, field, 1)
            kinds = [other for other in ALL_NAMES if isinstance(error, getattr(errors, other))]
            self.assertEqual([base, name], kinds)
            builtins = [kind for kind in BUILTIN_BASES.values() if isinstance(error, kind)]
            self.assertEqual([BUILTIN_BASES[base]], builtins)

    def test_number_of_parameters(self):
        for _, name, field in ROWS:
            for given in ([], [1, 2]) if field is not None else ():
                with self.assertRaises(TypeError):
                    getattr(errors, name)(*given)

    def test_raised_and_caught_by_the_base(self):
        for base, name, field in ROWS:
            with self.assertRaises(getattr(errors, base)):
                raise made(name, field, "x")


if __name__ == "__main__":
    unittest.main()
