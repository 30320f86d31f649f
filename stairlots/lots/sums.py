"""Sums on lots: what gives each member an integer, and a product the sum of what it gives the factors."""

from math import gcd

from stairlots.base.wholes import is_integer, is_whole
from stairlots.errors import InvalidNumber, InvalidOperation, Refused
from stairlots.lots.chains import divided, grown
from stairlots.lots.kernels import parted
from stairlots.lots.lots import check_lot, lot_with, plan_for, rows_of
from stairlots.stair.stairs import check_stair
from stairlots.stair.tables import beside, lone, ones


def is_sum(lot, value, *, modulus=0):
    """Whether the value is the values of a sum, or, with a modulus, of one modulo this."""
    check_lot(lot)
    check_modulus(modulus)
    if not isinstance(value, tuple) or len(value) != len(lot.makers):
        return False
    return all([is_whole(number) for number in value]) and is_told(told_rows(lot, value, modulus), modulus)


def sum_at(lot, values, stair, *, modulus=0):
    """What the sum gives the stair."""
    check_values(lot, values)
    check_stair(lot.shape, stair)
    rows = checked_rows(lot, values, modulus)
    left = divided(beside(plan_for(lot), flat(1)), rows, stair.numbers + (0,))[0]
    if any(left[:-1]):
        raise Refused(("outside",))
    return -left[-1] % modulus if modulus else -left[-1]


def step(lot, values, *, modulus=0):
    """The least number above 0 of those of which the values of the sum are the multiples, or 0."""
    check_values(lot, values)
    checked_rows(lot, values, modulus)
    found = modulus
    for number in values:
        found = gcd(found, number)
    return 0 if found == modulus else found


def kernel(lot, values, *, modulus=0):
    """The lot of all members with the value 0."""
    check_values(lot, values)
    rows = checked_rows(lot, values, modulus)
    plan = plan_for(lot)
    given = [0 if row is None else row[-1] for row in rows[:-1]]
    return lot_with(lot.shape, plan, parted(plan, rows_of(lot), given, modulus)[0])


def sums(lot):
    """The least base of all values of sums of integers."""
    check_lot(lot)
    found = units(len(lot.makers))
    plan = flat(len(found))
    for relation in relations(lot):
        given = [0 if row is None else inner(row, relation) for row in found]
        found = parted(plan, found, given)[0]
    return tuple([row for row in found if row is not None])


def check_values(lot, values):
    """InvalidLot, and InvalidOperation unless there is a tuple of integers, one for each maker."""
    check_lot(lot)
    if not isinstance(values, tuple) or len(values) != len(lot.makers):
        raise InvalidOperation("there is one value for each maker")
    if not all([is_integer(number) for number in values]):
        raise InvalidOperation("values are integers")


def check_modulus(modulus):
    """InvalidNumber unless the modulus is 0 or an integer of at least 2."""
    if not is_integer(modulus) or modulus < 0 or modulus == 1:
        raise InvalidNumber(modulus)


def checked_rows(lot, values, modulus):
    """The told chain of the lot; InvalidNumber, and Refused if the values are not those of a sum."""
    check_modulus(modulus)
    rows = told_rows(lot, values, modulus)
    if not is_told(rows, modulus):
        raise Refused(("bracket",))
    return rows


def told_rows(lot, values, modulus):
    """The chain of what the makers make, each with its value as a further entry, and of what has the modulus alone.

    The further entries are added when stairs are multiplied.
    """
    makers = [maker.numbers + (value,) for maker, value in zip(lot.makers, values)]
    plan = beside(plan_for(lot), flat(1))
    if modulus:
        makers.append(ones(plan_for(lot)) + (modulus,))
    return grown(plan, makers)[0]


def is_told(rows, modulus):
    """Whether each member has just one value: one has the value 0, or the multiples of the modulus."""
    if modulus == 0:
        return rows[-1] is None
    return rows[-1] is not None and rows[-1][-1] == modulus


def relations(lot):
    """How many times each maker stands in products that are one; all such tuples are the sums of multiples of these."""
    none = ones(plan_for(lot))
    many = len(lot.makers)
    makers = [maker.numbers + unit for maker, unit in zip(lot.makers, units(many))]
    rows = grown(beside(plan_for(lot), flat(many)), makers)[0]
    return [row[len(none):] for row in rows[len(none):] if row is not None]


def flat(many):
    """The plan of so many entries that are added."""
    return tuple([() for _ in range(many)])


def units(many):
    """The tuples of so many integers of which one is 1 and all others are 0."""
    return [lone(flat(many), at, 1) for at in range(many)]


def inner(one, other):
    """The sum of the products of the integers of two tuples."""
    return sum([a * b for a, b in zip(one, other)])
