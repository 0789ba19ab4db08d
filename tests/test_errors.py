"""[1.1] and [1.2]: the errors, what they are derived from, and what they keep."""

import unittest

from squaretimes import errors
from squaretimes.base.ratios import Ratio
from tests.helper import same

ROOTS = {
    "SquareError": ValueError,
    "InvalidNumber": IndexError,
    "UnknownName": KeyError,
    "TooMany": OverflowError,
    "Refused": ArithmeticError,
    "NothingToUndo": LookupError,
}
BELOW = (
    "InvalidRatio", "InvalidTable", "InvalidFormula", "InvalidFamily", "InvalidAlgebra", "InvalidElement",
    "InvalidTimes", "InvalidColours", "InvalidOperation", "ParseError",
)
KEEPING = {
    "ParseError": "spot", "InvalidNumber": "given", "UnknownName": "wanted", "TooMany": "most", "Refused": "reason",
    "NothingToUndo": "steps",
}
ALL = tuple(ROOTS) + BELOW


class Derived(unittest.TestCase):
    def test_roots_are_directly_derived_from_errors_of_python(self):
        for name, base in ROOTS.items():
            self.assertEqual(getattr(errors, name).__bases__, (base,), name)

    def test_others_are_directly_derived_from_square_error(self):
        for name in BELOW:
            self.assertEqual(getattr(errors, name).__bases__, (errors.SquareError,), name)

    def test_none_is_derived_from_another_one(self):
        for name in ALL:
            for other in ALL:
                derived = name == other or (other == "SquareError" and name in BELOW)
                self.assertEqual(issubclass(getattr(errors, name), getattr(errors, other)), derived, (name, other))

    def test_each_is_defined_in_the_module_under_its_name(self):
        for name in ALL:
            kind = getattr(errors, name)
            self.assertEqual((kind.__module__, kind.__name__), ("squaretimes.errors", name))


class Kept(unittest.TestCase):
    def test_any_value_is_kept(self):
        values = (
            None, True, False, 0, 1, -5, 10 ** 70, 10 ** 5000, "", "word", "a\n\t", (), (1, (2, "x")), [1], {"a": [1]},
            Ratio(1, 2), ("broken", ("unit", "a")), ("norm",), b"x", object(), Ratio,
        )
        for name, keeps in KEEPING.items():
            for value in values:
                error = getattr(errors, name)(value)
                self.assertIs(getattr(error, keeps), value, name)

    def test_what_is_kept_is_there_when_the_error_is_caught(self):
        for name, keeps in KEEPING.items():
            kind = getattr(errors, name)
            with self.assertRaises(kind) as caught:
                raise kind(("broken", 7))
            self.assertTrue(same(getattr(caught.exception, keeps), ("broken", 7)), name)

    def test_one_value_is_taken(self):
        for name in KEEPING:
            kind = getattr(errors, name)
            self.assertRaises(TypeError, kind)
            self.assertRaises(TypeError, kind, 1, 2)

    def test_others_take_a_message(self):
        for name in ALL:
            if name not in KEEPING:
                error = getattr(errors, name)("a message")
                self.assertEqual(str(error), "a message", name)


if __name__ == "__main__":
    unittest.main()
