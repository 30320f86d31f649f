"""Lots of brackets, and the two rows of lots that come of them."""

from stairlots.lots.chains import grown
from stairlots.lots.lots import check_lot, check_lot_of, lot_with, makers_of, plan_for, rows_of
from stairlots.lots.walks import walk
from stairlots.normal.pairs import normal_pairs
from stairlots.stair.tables import beside, bracket
from stairlots.way.sides import road_of_sides, side_point


def lot_of_brackets(one, other):
    """The lot of brackets of two lots."""
    check_lot(one)
    check_lot_of(one.shape, other)
    makers, others = makers_of(one), makers_of(other)
    rows = grown(plan_for(one), brackets_of(plan_for(one), makers, others), makers + others)[0]
    return lot_with(one.shape, plan_for(one), rows)


def downward(lot):
    """The lots H(0), H(1) and so on, each one the lot of brackets of the one ahead and the lot."""
    check_lot(lot)
    return lots_with(lot, downward_rows(lot))


def upward(lot):
    """The lots U(0), U(1) and so on, each one of all members that commute with all others but for the one ahead."""
    check_lot(lot)
    plan, whole = plan_for(lot), list(rows_of(lot))
    found = [[None for _ in plan]]
    while found[-1] != whole:
        found.append(central_rows(plan, whole, makers_of(lot), found[-1]))
    return lots_with(lot, found)


def depth(lot):
    """The number of lots in each of both rows, less 1."""
    check_lot(lot)
    return len(downward_rows(lot)) - 1


def lots_with(lot, chains):
    """The lots of the shape of a lot that have these chains."""
    return tuple([lot_with(lot.shape, plan_for(lot), rows) for rows in chains])


def brackets_of(plan, makers, others):
    """The brackets of each of some stairs and each of some others."""
    return [bracket(plan, one, other) for one in makers for other in others]


def downward_rows(lot):
    """The chains of the lots of the downward row."""
    plan, makers = plan_for(lot), makers_of(lot)
    found = [list(rows_of(lot))]
    while any([row is not None for row in found[-1]]):
        inner = [row for row in found[-1] if row is not None]
        found.append(grown(plan, brackets_of(plan, inner, makers), makers)[0])
    return found


def central_rows(plan, chain, makers, normal):
    """The chain of all members that commute with the makers but for members of a normal lot."""
    road = road_of_sides(plan)
    for maker in makers:
        point = side_point(maker)
        kept = walk(beside(plan, plan), normal_pairs(plan, chain, normal), road, point, point).kept
        chain = [None if row is None else row[:len(plan)] for row in kept[:len(plan)]]
    return chain
