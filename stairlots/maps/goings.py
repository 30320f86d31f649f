"""Goings: maps that lead each member of a lot as one stair leads it."""

from stairlots.base.wholes import is_modulus
from stairlots.errors import InvalidMap
from stairlots.lots.lots import check_lot_of, plan_for, rows_of
from stairlots.lots.walks import bars, mover_or_bar, walk
from stairlots.maps.maps import LotMap, pairs_along
from stairlots.stair.stairs import stair_with
from stairlots.way.likeness import point_of, road_of_tuples


def is_going(lot_map, by):
    """Whether the map is a going by some member of the lot `by`."""
    road, start, wish = way_of_map(lot_map, by)
    return walk(plan_for(by), rows_of(by), road, start, wish).lack == 0


def going_paper(lot_map, by):
    """Any paper on it: a member by which the map is a going, or a modulus that bars it."""
    road, start, wish = way_of_map(lot_map, by)
    mover, number = mover_or_bar(plan_for(by), rows_of(by), road, start, wish)
    return ("barred", number) if mover is None else ("led", stair_with(by.shape, plan_for(by), mover))


def is_going_paper(lot_map, by, value):
    """Whether the value is a going paper."""
    road, start, wish = way_of_map(lot_map, by)
    if not isinstance(value, tuple) or len(value) != 2:
        return False
    kind, told = value
    if kind == "led":
        stairs, others = pairs_along(lot_map)
        return told in by and all([told * one == other * told for one, other in zip(stairs, others)])
    if kind != "barred" or not is_modulus(told):
        return False
    return bars(plan_for(by), rows_of(by), road, start, wish, told)


def way_of_map(lot_map, by):
    """The road on which members of `by` lead all chain members at once, these, and the stairs to which the map leads.

    InvalidMap, and InvalidLot, unless the target of the map is the shape of its lot and that of `by`.
    """
    if not isinstance(lot_map, LotMap) or lot_map.target != lot_map.lot.shape:
        raise InvalidMap("this is no map to stairs of the shape of its lot")
    check_lot_of(lot_map.target, by)
    stairs, others = pairs_along(lot_map)
    return road_of_tuples(plan_for(by), len(stairs)), point_of(stairs), point_of(others)
