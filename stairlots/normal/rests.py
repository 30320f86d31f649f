"""What is left of a lot by a normal lot."""

from math import gcd

from stairlots.base.grids import kind_of
from stairlots.base.wholes import is_modulus
from stairlots.errors import InvalidOperation, InvalidStair, TooMany
from stairlots.lots.chains import divided, grown
from stairlots.lots.lots import check_lot, check_lot_of, makers_of, plan_for, rows_of
from stairlots.lots.walks import bars, mover_or_bar, walk
from stairlots.normal.brackets import brackets_of
from stairlots.normal.normals import is_normal
from stairlots.normal.pairs import normal_pairs
from stairlots.shadow.shadows import MAX_MEMBERS
from stairlots.stair.stairs import stair_with
from stairlots.stair.tables import beside, lead_at, ones, raised, times
from stairlots.way.sides import road_of_sides, side_point


class Rest:
    """What is left of a lot by a normal lot: the classes of members that are the same by it. It never changes."""

    def __init__(self, lot, normal):
        check_lot(lot)
        check_lot_of(lot.shape, normal)
        if not is_normal(lot, normal):
            raise InvalidOperation("this is no normal lot of the lot")
        self._lot = lot
        self._normal = normal
        self._size = normal.index_in(lot)
        self._kind = kind_by(lot, normal)

    @property
    def lot(self):
        """The lot, as it was passed."""
        return self._lot

    @property
    def normal(self):
        """The normal lot, as it was passed."""
        return self._normal

    @property
    def size(self):
        """How many classes there are; None if they are endless."""
        return self._size

    @property
    def kind(self):
        """What is left by the normal lot and all brackets."""
        return self._kind

    def least(self, stair):
        """The least member of the class of a member."""
        check_member(self._lot, stair)
        plan = plan_for(self._lot)
        return stair_with(self._lot.shape, plan, least_of(plan, rows_of(self._normal), stair.numbers))

    def is_same(self, one, other):
        """Whether two members are the same by the normal lot."""
        check_member(self._lot, one)
        check_member(self._lot, other)
        return ~one * other in self._normal

    def order(self, stair):
        """The least exponent, at least 1, of a power of a member that is in the normal lot, or None."""
        check_member(self._lot, stair)
        return order_of(plan_for(self._lot), rows_of(self._normal), stair.numbers)

    def members(self):
        """The least members of all classes, ascending by their numbers."""
        if self._size is None or self._size > MAX_MEMBERS:
            raise TooMany(MAX_MEMBERS)
        for numbers in all_least(self._lot, self._normal):
            yield stair_with(self._lot.shape, plan_for(self._lot), numbers)

    def are_alike(self, one, other):
        """Whether one member is led to the other one by the normal lot."""
        check_member(self._lot, one)
        check_member(self._lot, other)
        plan = plan_for(self._lot)
        chain = normal_pairs(plan, rows_of(self._lot), rows_of(self._normal))
        return walk(beside(plan, plan), chain, road_of_sides(plan), side_point(one.numbers), other.numbers).lack == 0

    def alike_paper(self, one, other):
        """Any paper on it: a member that leads the one so, or a number that bars it."""
        check_member(self._lot, one)
        check_member(self._lot, other)
        plan = plan_for(self._lot)
        chain = normal_pairs(plan, rows_of(self._lot), rows_of(self._normal))
        mover, number = mover_or_bar(
            beside(plan, plan), chain, road_of_sides(plan), side_point(one.numbers), other.numbers)
        if mover is None:
            return ("barred", number)
        return ("led", stair_with(self._lot.shape, plan, mover[:len(plan)]))

    def is_alike_paper(self, one, other, value):
        """Whether the value is a paper on two members."""
        check_member(self._lot, one)
        check_member(self._lot, other)
        if not isinstance(value, tuple) or len(value) != 2:
            return False
        kind, told = value
        if kind == "led":
            return told in self._lot and ~(told * one) * other * told in self._normal
        if kind != "barred" or not is_modulus(told):
            return False
        plan = plan_for(self._lot)
        chain = normal_pairs(plan, rows_of(self._lot), rows_of(self._normal))
        return bars(beside(plan, plan), chain, road_of_sides(plan), side_point(one.numbers), other.numbers, told)

    def __eq__(self, other):
        return isinstance(other, Rest) and self._lot == other._lot and self._normal == other._normal

    def __str__(self):
        return f"rest of {len(self._lot)} by {len(self._normal)}"


def check_member(lot, value):
    """InvalidStair unless the value is a member of the lot."""
    if value not in lot:
        raise InvalidStair("this is no member of the lot")


def kind_by(lot, normal):
    """The kind of a lot by a normal lot: by the exponents of all members of this one and of all brackets."""
    plan, makers = plan_for(lot), makers_of(lot)
    inner = grown(plan, makers_of(normal) + brackets_of(plan, makers, makers), makers)[0]
    told = [dict(divided(plan, rows_of(lot), row)[1]) for row in inner if row is not None]
    there = [at for at, row in enumerate(rows_of(lot)) if row is not None]
    return kind_of([[powers.get(at, 0) for at in there] for powers in told], len(there))


def least_of(plan, normal, numbers):
    """The entries of the least member that is the same as a stair by a normal lot with this chain."""
    for at, row in enumerate(normal):
        if row is not None and not 0 <= numbers[at] < row[at]:
            numbers = times(plan, numbers, raised(plan, row, -(numbers[at] // row[at])))
    return numbers


def order_of(plan, normal, numbers):
    """The order of a stair by a normal lot with this chain, or None: from place to place it grows by what is needed."""
    found = 1
    left = least_of(plan, normal, numbers)
    while any(left):
        at = lead_at(left)
        row = normal[at]
        if row is None:
            return None
        many = row[at] // gcd(row[at], left[at])
        found = found * many
        left = least_of(plan, normal, raised(plan, left, many))
    return found


def all_least(lot, normal):
    """The entries of the least members of all classes, ascending: from place to place each entry that there can be."""
    plan, inner = plan_for(lot), rows_of(normal)
    found = [ones(plan)]
    for at, row in enumerate(rows_of(lot)):
        if row is not None:
            many = inner[at][at] // row[at]
            found = [moved for numbers in found for moved in moved_on(plan, row, numbers, at, many)]
    return found


def moved_on(plan, row, numbers, at, many):
    """So many products of a stair and powers of a chain member, with the least entries at its place, ascending."""
    first = -(numbers[at] // row[at])
    return [times(plan, numbers, raised(plan, row, first + index)) for index in range(many)]
