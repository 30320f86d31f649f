"""Likeness: which tuples of stairs a lot leads to one another."""

from stairlots.base.wholes import is_modulus
from stairlots.errors import InvalidOperation, InvalidStair
from stairlots.lots.lots import check_lot, lot_with, plan_for, rows_of
from stairlots.lots.walks import bars, mover_or_bar, walk
from stairlots.shadow.shadows import Shadow
from stairlots.stair.stairs import are_stairs, stair_with
from stairlots.stair.tables import pairs_between

MAX_TUPLE = 3
MAX_DIGITS = 4000


def are_alike(lot, stairs, others):
    """Whether the tuples are alike by the lot."""
    check_both(lot, stairs, others)
    road = road_of_tuples(plan_for(lot), len(stairs))
    return walk(plan_for(lot), rows_of(lot), road, point_of(stairs), point_of(others)).lack == 0


def alike_paper(lot, stairs, others):
    """Any paper on it: a member that leads one tuple to the other one, or a modulus that bars them."""
    check_both(lot, stairs, others)
    plan = plan_for(lot)
    road = road_of_tuples(plan, len(stairs))
    mover, number = mover_or_bar(plan, rows_of(lot), road, point_of(stairs), point_of(others))
    return ("barred", number) if mover is None else ("led", stair_with(lot.shape, plan, mover))


def is_alike_paper(lot, stairs, others, value):
    """Whether the value is a likeness paper."""
    check_both(lot, stairs, others)
    if not isinstance(value, tuple) or len(value) != 2:
        return False
    kind, told = value
    if kind == "led":
        return told in lot and all([told * one == other * told for one, other in zip(stairs, others)])
    if kind != "barred" or not is_modulus(told):
        return False
    road = road_of_tuples(plan_for(lot), len(stairs))
    return bars(plan_for(lot), rows_of(lot), road, point_of(stairs), point_of(others), told)


def commuting(lot, stairs):
    """The lot of all members that commute with each of the stairs."""
    gone = walk_in_place(lot, stairs)
    return lot_with(lot.shape, plan_for(lot), gone.kept)


def steps_of(lot, stairs):
    """The steps of the numbers of the tuple."""
    return tuple(walk_in_place(lot, stairs).strides)


def least_alike(lot, stairs):
    """The least tuple of the class."""
    check_lot(lot)
    check_tuple(lot.shape, stairs)
    plan = plan_for(lot)
    many = len(stairs)
    reached = walk(plan, rows_of(lot), road_of_tuples(plan, many), point_of(stairs), None).reached
    return tuple([stair_with(lot.shape, plan, tuple(reached[at::many])) for at in range(many)])


def way_size(shadow, stairs):
    """How many tuples the members of a shadow lead the tuple to, modulo its modulus."""
    if not isinstance(shadow, Shadow):
        raise InvalidOperation("this is no shadow")
    lot, modulus = shadow.lot, shadow.modulus
    check_tuple(lot.shape, stairs)
    plan = plan_for(lot)
    point = point_of(stairs)
    gone = walk(plan, rows_of(lot), road_of_tuples(plan, len(stairs)), point, point, modulus)
    return size_of_way(gone.strides, modulus)


def size_of_way(steps, modulus):
    """How many points there are on a way modulo an integer, by its steps."""
    found = 1
    for step in steps:
        found = found * (modulus // step)
    return found


def is_tuple(shape, value):
    """Whether the value is a tuple of one to three stairs of the shape."""
    return are_stairs(shape, value, MAX_TUPLE) and len(value) > 0


def check_tuple(shape, value):
    """InvalidStair unless the value is a tuple of one to three stairs of the shape."""
    if not is_tuple(shape, value):
        raise InvalidStair("this is no tuple of one to three stairs of the shape")


def check_both(lot, stairs, others):
    """The errors of a lot and two tuples."""
    check_lot(lot)
    check_tuple(lot.shape, stairs)
    if not is_tuple(lot.shape, others) or len(others) != len(stairs):
        raise InvalidStair("this is no tuple of as many stairs of the shape")


def walk_in_place(lot, stairs):
    """The walk from the tuple to itself."""
    check_lot(lot)
    check_tuple(lot.shape, stairs)
    point = point_of(stairs)
    return walk(plan_for(lot), rows_of(lot), road_of_tuples(plan_for(lot), len(stairs)), point, point)


def point_of(stairs):
    """The numbers of a tuple: by the places, at one place by the stairs."""
    rows = [stair.numbers for stair in stairs]
    return tuple([number for numbers in zip(*rows) for number in numbers])


def road_of_tuples(plan, many):
    """The road (see walks) on which a member leads tuples of so many stairs."""
    found = []
    for place, pairs in enumerate(pairs_between(plan)):
        for index in range(many):
            plus = [(low, high * many + index) for low, high in pairs]
            minus = [(high, low * many + index) for low, high in pairs]
            found.append((place * many + index, plus, minus))
    return found
