"""The errors of the package."""


class SquareError(ValueError):
    """The root of the errors about a wrong value."""


class InvalidRatio(SquareError):
    """A ratio, or some values, are not as asked for."""


class InvalidTable(SquareError):
    """A table, or some tables, are not as asked for."""


class InvalidFormula(SquareError):
    """There is no formula where one is asked for."""


class InvalidFamily(SquareError):
    """There is no family where one is asked for."""


class InvalidAlgebra(SquareError):
    """There is no algebra of the kind that is asked for."""


class InvalidElement(SquareError):
    """There is no element of the kind that is asked for."""


class InvalidTimes(SquareError):
    """There is no multiplication where one is asked for."""


class InvalidColours(SquareError):
    """There is no colouring where one is asked for."""


class InvalidOperation(SquareError):
    """The operation is not there for what is passed."""


class ParseError(SquareError):
    """A text cannot be read; `spot` tells where."""

    def __init__(self, spot):
        super().__init__("the text cannot be read")
        self.spot = spot


class InvalidNumber(IndexError):
    """An integer is none, or not within its bounds; `given` is what was passed."""

    def __init__(self, given):
        super().__init__("no integer within the bounds")
        self.given = given


class UnknownName(KeyError):
    """Nothing is kept for what was asked for, `wanted`."""

    def __init__(self, wanted):
        super().__init__("nothing is kept under this name")
        self.wanted = wanted


class TooMany(OverflowError):
    """There is more of something than `most`, the bound."""

    def __init__(self, most):
        super().__init__("more than the bound")
        self.most = most


class Refused(ArithmeticError):
    """What was asked for is refused; `reason` is a tuple, a word first."""

    def __init__(self, reason):
        super().__init__("refused")
        self.reason = reason


class NothingToUndo(LookupError):
    """There are fewer than `steps` steps to take back."""

    def __init__(self, steps):
        super().__init__("there are fewer steps to take back")
        self.steps = steps
