"""What the tests share."""

from squaretimes.base.ratios import Ratio
from squaretimes.errors import InvalidNumber
from squaretimes.form.signs import SignTable

GREAT = 10 ** 60 - 1
TOO_GREAT = 10 ** 60

# Values that are no integers, of many kinds.
NO_INTEGERS = (
    None, True, False, "", "1", "a\tb\n", (), (1,), (1, (2, "x")), [], [1], {}, {"a": 1}, {1: [2]},
    Ratio(1), Ratio(1, 2), SignTable((1,)),
)
# Values that are never passed as integers, and such that are never passed as ratios.
NO_PASSED_INTEGERS = NO_INTEGERS + (TOO_GREAT, -TOO_GREAT, 10 ** 99)
NO_RATIOS = tuple([value for value in NO_PASSED_INTEGERS if not isinstance(value, Ratio)])


def same(one, other):
    """Whether two values are equal and of the same kinds throughout: True is not 1."""
    if isinstance(one, (tuple, list)):
        return type(one) is type(other) and len(one) == len(other) and all(map(same, one, other))
    return type(one) is type(other) and one == other


def error_of(call, *given, **named):
    """The error that a call raises, or None."""
    try:
        call(*given, **named)
    except Exception as error:
        return error
    return None


class Case:
    """Assertions about kinds and errors, for test cases."""

    def assert_same(self, one, other):
        self.assertTrue(same(one, other), (one, other))

    def assert_error(self, kind, call, *given, **named):
        error = error_of(call, *given, **named)
        self.assertIs(type(error), kind, (call, given, named, error))
        return error

    def assert_kept(self, kind, name, kept, call, *given, **named):
        error = self.assert_error(kind, call, *given, **named)
        self.assert_same(getattr(error, name), kept)

    def assert_number(self, kept, call, *given, **named):
        self.assert_kept(InvalidNumber, "given", kept, call, *given, **named)
