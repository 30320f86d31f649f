"""Roots of stairs, and lots that have all roots of their members."""

from math import gcd

from stairlots.base.wholes import is_integer
from stairlots.errors import InvalidNumber, InvalidStair
from stairlots.lots.chains import divided
from stairlots.lots.lots import check_lot, plan_for, rows_of
from stairlots.roots.logs import log_of, stair_of
from stairlots.roots.spans import lot_with_rows, span_of
from stairlots.stair.stairs import Stair, check_stair
from stairlots.stair.tables import lead_at, raised


def root(stair, many):
    """The stair of which a stair is the power with this exponent, or None."""
    if not isinstance(stair, Stair):
        raise InvalidStair("only a stair has roots")
    if not is_integer(many) or many == 0:
        raise InvalidNumber(many)
    return stair_of(stair.shape, tuple([ratio.over(many) for ratio in log_of(stair)]))


def least_power(lot, stair):
    """The least exponent, at least 1, of a power of a stair that the lot has, or None."""
    check_lot(lot)
    check_stair(lot.shape, stair)
    plan, chain = plan_for(lot), rows_of(lot)
    found = 1
    while True:
        left = divided(plan, chain, raised(plan, stair.numbers, found))[0]
        at = lead_at(left)
        if at is None:
            return found
        if chain[at] is None:
            return None
        # What is left leads here. Its powers have the multiples of this entry, but for the places behind.
        found = found * (chain[at][at] // gcd(chain[at][at], left[at]))


def rooted(lot):
    """The lot of all stairs of which the lot has a power with an exponent other than 0."""
    rows = span_of(lot)
    return lot_with_rows(lot.shape, rows)


def is_rooted(lot):
    """Whether the lot has each stair of which it has such a power."""
    return rooted(lot) == lot
