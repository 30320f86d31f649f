"""Stairs as products of singles, which have one entry other than 0 each."""

from stairlots.base.shapes import check_shape
from stairlots.base.wholes import is_integer
from stairlots.errors import InvalidOperation, InvalidStair
from stairlots.stair.stairs import Stair, stair_with
from stairlots.stair.tables import lone, ones, plan_of, times


def singles(stair, *, backwards=False):
    """The integers, one for each place in order, of the singles whose product the stair is."""
    if not isinstance(stair, Stair):
        raise InvalidStair("only a stair is a product of singles")
    check_backwards(backwards)
    plan = plan_of(stair.shape)
    left = stair.numbers
    found = []
    for at in range(len(plan)):
        found.append(left[at])
        left = joined(plan, lone(plan, at, -left[at]), left, backwards)
    return tuple(found)


def from_singles(shape, numbers, *, backwards=False):
    """The stair that is the product of the singles with these integers."""
    check_shape(shape)
    plan = plan_of(shape)
    if not isinstance(numbers, tuple) or len(numbers) != len(plan):
        raise InvalidOperation("there is one integer for each place")
    if not all([is_integer(number) for number in numbers]):
        raise InvalidOperation("singles have integers")
    check_backwards(backwards)
    found = ones(plan)
    for at, number in enumerate(numbers):
        found = joined(plan, found, lone(plan, at, number), backwards)
    return stair_with(shape, plan, found)


def check_backwards(backwards):
    """InvalidOperation unless the value is a boolean."""
    if not isinstance(backwards, bool):
        raise InvalidOperation("backwards is True or False")


def joined(plan, one, other, backwards):
    """The product of both, or the opposite one."""
    return times(plan, other, one) if backwards else times(plan, one, other)
