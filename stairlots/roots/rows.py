"""Rows: one ratio for each place of a shape, and how they are taken as integers.

A row is taken as integers by a unit: a place gets as many factors of it as its distance. The entries of products are
then multiplied by the unit as often as their distances tell as well, so that all can be done in integers.
"""

from math import lcm

from stairlots.base.ratios import Ratio, ratio_of
from stairlots.base.shapes import places
from stairlots.errors import InvalidSpan


def is_row(shape, value):
    """Whether the value is a row of the shape."""
    if not isinstance(value, tuple) or len(value) != len(places(shape)):
        return False
    return all([isinstance(ratio, Ratio) for ratio in value])


def check_row(shape, value):
    """InvalidSpan unless the value is a row of the shape."""
    if not is_row(shape, value):
        raise InvalidSpan("this is no row of the shape")


def bottom_of(*rows):
    """The least unit by which the rows are taken as integers."""
    found = 1
    for row in rows:
        for ratio in row:
            found = lcm(found, ratio.bottom)
    return found


def factors_of(shape, unit):
    """For each place what its ratio is multiplied by."""
    powers = [1]
    for _ in range(max(shape)):
        powers.append(powers[-1] * unit)
    return [powers[column - row] for _, row, column in places(shape)]


def in_integers(shape, row, unit):
    """The row, taken as integers."""
    return tuple([ratio.top * (factor // ratio.bottom) for ratio, factor in zip(row, factors_of(shape, unit))])


def in_ratios(shape, numbers, unit):
    """The row that is taken as these integers."""
    return tuple([ratio_of(number, factor) for number, factor in zip(numbers, factors_of(shape, unit))])
