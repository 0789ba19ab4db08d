"""Deeds: what can be done with the things of a desk."""

from squaretimes.desk.things import can_be_multiplied
from squaretimes.double.doubled import Element
from squaretimes.errors import Refused, UnknownName
from squaretimes.form.formulas import MAX_SIDE, Formula
from squaretimes.form.signs import SignTable


def do_deed(things, deed, index):
    """Changes the things, a dict, as a deed tells, which has an index in its call."""
    word, name = deed[:2]
    if word == "put":
        things[name] = deed[2]
    elif word == "take":
        _check_known(things, (name,))
        things.pop(name)
    elif len(deed) == 2:
        _check_known(things, (name,))
        things[name] = _changed(word, things[name], index)
    else:
        _check_known(things, deed[2:])
        things[name] = _made(word, things[deed[2]], things[deed[3]], index)


def _check_known(things, names):
    """Refuses the first name that stands for nothing."""
    for name in names:
        if name not in things:
            raise UnknownName(name)


def _changed(word, thing, index):
    """The opposite of a thing, or what it is when it is turned."""
    if word == "minus":
        if isinstance(thing, Formula):
            raise Refused(("kinds", index))
        return -thing
    if isinstance(thing, SignTable):
        return thing.turned()
    return thing.mate() if isinstance(thing, Element) else thing.exchanged()


def _made(word, one, other, index):
    """The product of two things, or the formula that two formulas make."""
    if word == "times":
        if not can_be_multiplied(one, other):
            raise Refused(("kinds", index))
        return one * other
    if not (isinstance(one, Formula) and isinstance(other, Formula)):
        raise Refused(("kinds", index))
    alike = 0 if word == "beside" else 1
    if one.sizes[alike] != other.sizes[alike]:
        raise Refused(("kinds", index))
    # No size of a formula is greater than the last one.
    if one.sizes[2] + other.sizes[2] > MAX_SIDE:
        raise Refused(("great", index))
    return one.beside(other) if word == "beside" else one.above(other)
