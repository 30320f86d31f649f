"""Bars: moduli modulo which a stair is no member of a lot."""

from stairlots.base.wholes import is_modulus
from stairlots.lots.chains import has_member
from stairlots.lots.lots import check_lot, plan_for, rows_of
from stairlots.lots.walks import bars, mover_or_bar
from stairlots.stair.stairs import check_stair
from stairlots.stair.tables import ones, pairs_between


def bar(lot, stair):
    """None for a member of the lot, and otherwise any modulus that bars the stair."""
    check_lot(lot)
    check_stair(lot.shape, stair)
    plan = plan_for(lot)
    if has_member(plan, rows_of(lot), stair.numbers):
        return None
    return mover_or_bar(plan, rows_of(lot), road_from_one(plan), one_point(plan), stair.numbers)[1]


def is_bar(lot, stair, value):
    """Whether the value is a modulus of at most 4000 digits that bars the stair from the lot."""
    check_lot(lot)
    check_stair(lot.shape, stair)
    if not is_modulus(value):
        return False
    plan = plan_for(lot)
    return bars(plan, rows_of(lot), road_from_one(plan), one_point(plan), stair.numbers, value)


def one_point(plan):
    """The point from which members lead to themselves: the entries of the stair one, and the number 1."""
    return ones(plan) + (1,)


def road_from_one(plan):
    """The road (see walks) on which a member leads a stair to the product of both."""
    one = len(plan)
    return [(at, [(at, one)] + pairs, []) for at, pairs in enumerate(pairs_between(plan))]
