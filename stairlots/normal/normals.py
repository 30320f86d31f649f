"""Lots that other lots lead into themselves."""

from stairlots.lots.chains import grown, has_member
from stairlots.lots.lots import check_lot, check_lot_of, lot_with, makers_of, plan_for, rows_of
from stairlots.stair.tables import bracket


def is_normal(lot, other):
    """Whether the other lot is a normal lot of the lot."""
    check_lot(lot)
    check_lot_of(lot.shape, other)
    return other.is_within(lot) and is_led_into_itself(lot, other)


def closure(lot, other):
    """The least lot that has all members of the other one and is led into itself by the lot."""
    check_lot(lot)
    check_lot_of(lot.shape, other)
    rows = grown(plan_for(lot), makers_of(other), makers_of(lot))[0]
    return lot_with(lot.shape, plan_for(lot), rows)


def is_led_into_itself(lot, other):
    """Whether each member of the lot leads the other lot into itself.

    It is enough that each maker leads each chain member into it: the lead numbers stay, so that nothing is left out.
    """
    plan = plan_for(lot)
    inner = [row for row in rows_of(other) if row is not None]
    return all([has_member(plan, rows_of(other), bracket(plan, one, row)) for one in makers_of(lot) for row in inner])
