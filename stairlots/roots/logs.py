"""Logs of stairs, and the stairs with a log."""

from math import factorial

from stairlots.base.shapes import check_shape
from stairlots.errors import InvalidStair
from stairlots.roots.rows import bottom_of, check_row, factors_of, in_integers, in_ratios
from stairlots.stair.stairs import Stair, stair_with
from stairlots.stair.tables import plan_of, times, times_between

# The n-th power of a table has entries at the distance n and behind it alone. There they are multiples of as many of
# this unit, at least: all that they are divided by divides these, as no distance is greater than five.
_UNIT = 60


def log_of(stair):
    """The log of a stair."""
    if not isinstance(stair, Stair):
        raise InvalidStair("only a stair has a log")
    shape = stair.shape
    plan = plan_of(shape)
    numbers = [number * factor for number, factor in zip(stair.numbers, factors_of(shape, _UNIT))]
    return in_ratios(shape, log_in_integers(plan, tuple(numbers)), _UNIT)


def stair_of(shape, log):
    """The stair with a log, or None."""
    check_shape(shape)
    check_row(shape, log)
    plan = plan_of(shape)
    unit = _UNIT * bottom_of(log)
    numbers = table_in_integers(plan, in_integers(shape, log, unit))
    factors = factors_of(shape, unit)
    if any([number % factor for number, factor in zip(numbers, factors)]):
        return None
    return stair_with(shape, plan, tuple([number // factor for number, factor in zip(numbers, factors)]))


def joined_logs(shape, one, other):
    """The log of the product of the tables with two logs."""
    check_rows(shape, one, other)
    plan = plan_of(shape)
    unit = _UNIT * bottom_of(one, other)
    tables = [table_in_integers(plan, in_integers(shape, row, unit)) for row in (one, other)]
    return in_ratios(shape, log_in_integers(plan, times(plan, tables[0], tables[1])), unit)


def bracket_of_logs(shape, one, other):
    """The bracket of two rows."""
    check_rows(shape, one, other)
    plan = plan_of(shape)
    unit = bottom_of(one, other)
    first, second = in_integers(shape, one, unit), in_integers(shape, other, unit)
    there, back = times_between(plan, first, second, 0), times_between(plan, second, first, 0)
    return in_ratios(shape, [a - b for a, b in zip(there, back)], unit)


def check_rows(shape, one, other):
    """The errors of a shape and two rows."""
    check_shape(shape)
    check_row(shape, one)
    check_row(shape, other)


def log_in_integers(plan, numbers):
    """The log of the table with these integers beside the ones."""
    powers = powers_of(plan, numbers)
    return divided_sum(powers, [many if many % 2 else -many for many in range(1, len(powers) + 1)])


def table_in_integers(plan, numbers):
    """The integers beside the ones of the table that has these as its log."""
    powers = powers_of(plan, numbers)
    return divided_sum(powers, [factorial(many) for many in range(1, len(powers) + 1)])


def powers_of(plan, numbers):
    """The powers, from the first one on, of what stands beside the ones, as long as they are not 0."""
    found = [numbers]
    part = numbers
    while any(part):
        part = times_between(plan, part, numbers, 0)
        found.append(part)
    return found


def divided_sum(powers, divisors):
    """The sum of powers that are divided by an integer each."""
    parts = [[number // divisor for number in power] for power, divisor in zip(powers, divisors)]
    return tuple([sum(entries) for entries in zip(*parts)])
