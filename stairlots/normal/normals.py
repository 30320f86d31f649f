"""Lots that other lots lead into themselves."""

from stairlots.lots.chains import grown, has_member
from stairlots.lots.lots import check_lot, check_lot_of, lot_with, makers_of, plan_for, rows_of
from stairlots.stair.tables import bracket


def is_normal(lot, other):
    """Whether the other lot is a normal lot of the lot."""
    check_lot(lot)
    check_lot_of(lot.shape, other)
    return other.is_within(lot) and is_led_into_itself(lot, other)


def closure(lot, other):
    """The least lot that has all members of the other one and is led into itself by the lot."""
    check_lot(lot)
    check_lot_of(lot.shape, other)
    rows = grown(plan_for(lot), makers_of(other), makers_of(lot))[0]
    return lot_with(lot.shape, plan_for(lot), rows)


def is_led_into_itself(lot, other):
    """Whether each member of the lot leads the other lot into itself."""
    return is_kept(plan_for(lot), rows_of(other), makers_of(lot))


def is_kept(plan, rows, movers):
    """Whether all stairs that some stairs make lead the lot with this chain into itself.

    It is enough that each of these leads each chain member into it: the lead numbers stay, so that nothing is left out.
    """
    for row in rows:
        if row is not None:
            for mover in movers:
                if not has_member(plan, rows, bracket(plan, mover, row)):
                    return False
    return True
