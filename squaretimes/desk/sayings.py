"""Sayings: what can be said of the things of a desk, and whether it is true."""

from squaretimes.desk.things import can_be_multiplied
from squaretimes.double.doubled import Element
from squaretimes.form.formulas import Formula
from squaretimes.form.signs import SignTable

_OF_TWO = ("equal", "against")


def is_of_two(word):
    """Whether the saying with a word speaks of two things."""
    return word in _OF_TWO


def names_in(saying):
    """The names in a saying."""
    return saying[1:] if is_of_two(saying[0]) else saying[1:2]


def is_true_of(things, saying):
    """Whether a saying is true of the things, a dict that has all names in it."""
    word = saying[0]
    thing = things[saying[1]]
    if word == "equal":
        return thing == things[saying[2]]
    if word == "against":
        return _are_against(thing, things[saying[2]])
    if word == "unit":
        return _is_unit(thing)
    if word == "norm":
        return isinstance(thing, Element) and thing.norm == saying[2]
    return isinstance(thing, Formula) and thing.sizes == saying[2]


def _are_against(one, other):
    """Whether the products of two things in both sequences are opposite."""
    return can_be_multiplied(one, other) and one * other == -(other * one)


def _is_unit(thing):
    """Whether a thing is a sign table that is, turned, its opposite, or an element with the square -1."""
    if isinstance(thing, SignTable):
        return thing.turned() == -thing
    return isinstance(thing, Element) and thing * thing == -thing.algebra.one()
