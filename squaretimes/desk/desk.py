"""A desk: things that are kept by names, and what is said of them, which stays true."""

from squaretimes.base.integers import is_passed_integer
from squaretimes.base.ratios import Ratio
from squaretimes.desk.deeds import do_deed
from squaretimes.desk.sayings import is_of_two, is_true_of, names_in
from squaretimes.desk.things import is_thing
from squaretimes.errors import InvalidNumber, InvalidOperation, NothingToUndo, Refused, TooMany, UnknownName

MAX_NAME = 8
MAX_SAID = 30


def _is_name(value):
    """Whether the value is a string of one to eight letters from a to z."""
    if not (isinstance(value, str) and 1 <= len(value) <= MAX_NAME):
        return False
    return all(["a" <= letter <= "z" for letter in value])


def _has_name(value):
    """Whether the value is a tuple with a name behind its first member."""
    return isinstance(value, tuple) and len(value) >= 2 and _is_name(value[1])


def _is_deed(value):
    """Whether the value is a deed."""
    if not _has_name(value):
        return False
    word = value[0]
    if word == "put":
        return len(value) == 3 and is_thing(value[2])
    if word in ("take", "minus", "turn"):
        return len(value) == 2
    return word in ("times", "beside", "above") and len(value) == 4 and all([_is_name(name) for name in value[2:]])


def _is_saying(value):
    """Whether the value has the form of a saying."""
    if not _has_name(value):
        return False
    word = value[0]
    if word == "unit":
        return len(value) == 2
    if len(value) != 3:
        return False
    if word == "norm":
        return isinstance(value[2], Ratio)
    return _are_sizes(value[2]) if word == "sizes" else is_of_two(word) and _is_name(value[2])


def _are_sizes(value):
    """Whether the value is a tuple of three integers."""
    return isinstance(value, tuple) and len(value) == 3 and all([is_passed_integer(size) for size in value])


def _check_sayings(things, sayings):
    """Refuses things of which the sayings cannot be kept."""
    for saying in sayings:
        if not all([name in things for name in names_in(saying)]):
            raise Refused(("taken", saying))
    for saying in sayings:
        if not is_true_of(things, saying):
            raise Refused(("broken", saying))


class Desk:
    """A desk without things and sayings at first."""

    def __init__(self):
        # The dict and the tuple are exchanged for others, but never changed: steps and twins can keep them.
        self._things = {}
        self._sayings = ()
        self._steps = []

    @property
    def things(self):
        """The dict from the names to the things."""
        return dict(self._things)

    @property
    def sayings(self):
        """The sayings, in the order in which they were said."""
        return self._sayings

    @property
    def past(self):
        """The number of the steps that can be taken back."""
        return len(self._steps)

    def do(self, *deeds):
        """Does the deeds, one after the other."""
        for deed in deeds:
            if not _is_deed(deed):
                raise InvalidOperation("no deed")
        things = dict(self._things)
        for index, deed in enumerate(deeds):
            do_deed(things, deed, index)
        _check_sayings(things, self._sayings)
        # Who iterates over the desk gets the names as the dict has them.
        self._step({name: things[name] for name in sorted(list(things))}, self._sayings)

    def say(self, saying):
        """Keeps a saying."""
        if not _is_saying(saying):
            raise InvalidOperation("no saying")
        for name in names_in(saying):
            if name not in self._things:
                raise UnknownName(name)
        if saying not in self._sayings:
            if len(self._sayings) >= MAX_SAID:
                raise TooMany(MAX_SAID)
            if not is_true_of(self._things, saying):
                raise Refused(("false",))
            self._step(self._things, self._sayings + (saying,))

    def unsay(self, saying):
        """Keeps a saying no more."""
        # A value that is only equal to a saying, as True is to 1, is none.
        if not (_is_saying(saying) and saying in self._sayings):
            raise UnknownName(saying)
        self._step(self._things, tuple([kept for kept in self._sayings if kept != saying]))

    def is_true(self, value):
        """Whether the value is a saying, with names of the desk, that is true now."""
        if not (_is_saying(value) and all([name in self._things for name in names_in(value)])):
            return False
        return is_true_of(self._things, value)

    def undo(self, steps=1):
        """Takes back the last steps."""
        if not (is_passed_integer(steps) and steps >= 1):
            raise InvalidNumber(steps)
        if steps > len(self._steps):
            raise NothingToUndo(steps)
        things, sayings = self._steps[-steps]
        self._things = things
        self._sayings = sayings
        self._steps = self._steps[:-steps]

    def twin(self):
        """Another desk with the same things, sayings and steps."""
        made = Desk()
        made._things = self._things
        made._sayings = self._sayings
        made._steps = list(self._steps)
        return made

    def _step(self, things, sayings):
        """Keeps other things and sayings, and the former ones as a step, if they are others."""
        if things != self._things or sayings != self._sayings:
            self._steps.append((self._things, self._sayings))
            self._things = things
            self._sayings = sayings

    def __contains__(self, name):
        return isinstance(name, str) and name in self._things

    def __getitem__(self, name):
        if not isinstance(name, str) or name not in self._things:
            raise UnknownName(name)
        return self._things[name]

    def __len__(self):
        return len(self._things)

    def __iter__(self):
        return iter(self._things)

    def __eq__(self, other):
        return isinstance(other, Desk) and self._things == other._things and self._sayings == other._sayings

    def __str__(self):
        return f"desk: {len(self._things)} things, {len(self._sayings)} sayings"
