"""Two lots at once: to which stairs they lead a stair from both sides, and their products."""

from stairlots.base.wholes import is_modulus
from stairlots.errors import InvalidOperation
from stairlots.lots.kernels import common_chain, pairs_of
from stairlots.lots.lots import check_lot, check_lot_of, lot_with, plan_for, rows_of
from stairlots.lots.walks import bars, mover_or_bar, walk
from stairlots.shadow.shadows import Shadow
from stairlots.stair.stairs import check_stair, stair_with
from stairlots.stair.tables import beside, ones, pairs_between
from stairlots.way.likeness import size_of_way

MAX_DIGITS = 4000


def are_sides(one, stair, other, wish):
    """Whether the lots lead the stair to the wish from both sides."""
    check_four(one, stair, other, wish)
    return walk_of_sides(one, side_point(stair.numbers), other, wish.numbers).lack == 0


def sides_paper(one, stair, other, wish):
    """Any paper on it: members of both lots that do so, or a modulus that bars it."""
    check_four(one, stair, other, wish)
    plan = plan_for(one)
    mover, number = mover_or_bar(
        beside(plan, plan), pairs_of_lots(one, other), road_of_sides(plan), side_point(stair.numbers), wish.numbers)
    if mover is None:
        return ("barred", number)
    many = len(plan)
    return ("led", stair_with(one.shape, plan, mover[:many]), stair_with(one.shape, plan, mover[many:]))


def is_sides_paper(one, stair, other, wish, value):
    """Whether the value is a paper on the stair and the wish."""
    check_four(one, stair, other, wish)
    if not isinstance(value, tuple) or len(value) not in (2, 3):
        return False
    if len(value) == 2:
        return value[0] == "barred" and bars_sides(one, stair.numbers, other, wish.numbers, value[1])
    kind, left, right = value
    return kind == "led" and left in one and right in other and left * stair == wish * right


def steps_of_sides(one, stair, other):
    """The steps of the places."""
    check_three(one, stair, other)
    return tuple(walk_of_sides(one, side_point(stair.numbers), other, stair.numbers).strides)


def least_sides(one, stair, other):
    """The least stair to which the lots lead the stair."""
    check_three(one, stair, other)
    reached = walk_of_sides(one, side_point(stair.numbers), other, None).reached
    return stair_with(one.shape, plan_for(one), tuple(reached[:-1]))


def sides_size(shadow, stair, other_shadow):
    """To how many stairs, modulo the modulus, members of both shadows lead the stair."""
    if not isinstance(shadow, Shadow):
        raise InvalidOperation("this is no shadow")
    lot, modulus = shadow.lot, shadow.modulus
    check_stair(lot.shape, stair)
    if not isinstance(other_shadow, Shadow):
        raise InvalidOperation("this is no shadow")
    if other_shadow.lot.shape != lot.shape or other_shadow.modulus != modulus:
        raise InvalidOperation("the shadows have unlike shapes or moduli")
    gone = walk_of_sides(lot, side_point(stair.numbers), other_shadow.lot, stair.numbers, modulus)
    return size_of_way(gone.strides, modulus)


def common(one, other):
    """The lot of all stairs that are members of both lots."""
    check_two(one, other)
    plan = plan_for(one)
    return lot_with(one.shape, plan, common_chain(plan, rows_of(one), rows_of(other)))


def is_product(one, other):
    """Whether the products of members of both lots make a lot."""
    check_two(one, other)
    return first_apart(one, other, one | other) is None


def product_paper(one, other):
    """Any paper on it: that the product is a lot, or a member of the joined lot, and a modulus that keeps it apart."""
    check_two(one, other)
    plan = plan_for(one)
    wish = first_apart(one, other, one | other)
    if wish is None:
        return ("lot",)
    chain, road = pairs_of_lots(one, other), road_of_sides(plan)
    number = mover_or_bar(beside(plan, plan), chain, road, side_point(ones(plan)), wish)[1]
    return ("apart", stair_with(one.shape, plan, wish), number)


def is_product_paper(one, other, value):
    """Whether the value is a paper on the product."""
    check_two(one, other)
    if not isinstance(value, tuple) or len(value) not in (1, 3):
        return False
    if len(value) == 1:
        return value[0] == "lot" and is_product(one, other)
    kind, stair, number = value
    if kind != "apart" or stair not in one | other:
        return False
    return bars_sides(one, ones(plan_for(one)), other, stair.numbers, number)


def check_two(one, other):
    """InvalidLot unless both are lots of one shape."""
    check_lot(one)
    check_lot_of(one.shape, other)


def check_three(one, stair, other):
    """The errors of a lot, a stair and another lot."""
    check_lot(one)
    check_stair(one.shape, stair)
    check_lot_of(one.shape, other)


def check_four(one, stair, other, wish):
    """The errors of a lot, a stair, another lot and a wish."""
    check_three(one, stair, other)
    check_stair(one.shape, wish)


def side_point(numbers):
    """The point of a stair: its entries, and the number 1 for what stands from corner to corner."""
    return numbers + (1,)


def road_of_sides(plan):
    """The road (see walks) on which pairs of members lead a stair: h and k lead x to the y with h * x == y * k."""
    many = len(plan)
    found = []
    for at, pairs in enumerate(pairs_between(plan)):
        minus = [(many + at, many)] + [(many + high, low) for low, high in pairs]
        found.append((at, [(at, many)] + pairs, minus))
    return found


def pairs_of_lots(one, other):
    """The chain of all pairs of members of two lots."""
    return pairs_of(plan_for(one), rows_of(one), plan_for(other), rows_of(other))


def walk_of_sides(one, start, other, wish, modulus=0):
    """The walk of a stair that is led by two lots."""
    plan = plan_for(one)
    return walk(beside(plan, plan), pairs_of_lots(one, other), road_of_sides(plan), start, wish, modulus)


def bars_sides(one, numbers, other, wish, value):
    """Whether the value is a modulus that bars it that two lots lead a stair to another one."""
    if not is_modulus(value):
        return False
    plan = plan_for(one)
    chain, road = pairs_of_lots(one, other), road_of_sides(plan)
    return bars(beside(plan, plan), chain, road, side_point(numbers), wish, value)


def first_apart(one, other, joined):
    """The entries of the first chain member of the joined lot that is no product of members of both, or None.

    Where the step of the stair one is the lead number at each place, each member is such a product.
    """
    start = side_point(ones(plan_for(one)))
    strides = walk_of_sides(one, start, other, start).strides
    for at, row in enumerate(rows_of(joined)):
        if row is not None and row[at] != strides[at]:
            return row
    return None
