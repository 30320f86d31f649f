"""Lots: all products of some stairs, and of stairs that undo these."""

from stairlots.base.shapes import check_shape, places
from stairlots.base.wholes import is_integer
from stairlots.errors import InvalidLot, InvalidOperation, InvalidStair
from stairlots.lots.chains import divided, grown, has_member
from stairlots.lots.kernels import common_chain
from stairlots.stair.stairs import are_stairs, check_stair, is_stair, stair_with
from stairlots.stair.tables import lone, ones, plan_of, raised, times

MAX_MAKERS = 6

_LEAST_SHAPE = (2,)


class Lot:
    """The lot of a shape that some stairs, its makers, make. It never changes."""

    def __init__(self, shape, makers):
        check_shape(shape)
        if not are_stairs(shape, makers, MAX_MAKERS):
            raise InvalidStair("the makers are a tuple of at most six stairs of the shape")
        self._shape = shape
        self._plan = plan_of(shape)
        self._makers = makers
        self._rows = tuple(grown(self._plan, [maker.numbers for maker in makers])[0])
        self._chain = members_of(shape, self._plan, self._rows)

    @classmethod
    def every(cls, shape):
        """The lot of all stairs of a shape."""
        check_shape(shape)
        plan = plan_of(shape)
        return lot_with(shape, plan, [lone(plan, at, 1) for at in range(len(plan))])

    @property
    def shape(self):
        """The shape."""
        return self._shape

    @property
    def makers(self):
        """The makers, as they were passed."""
        return self._makers

    @property
    def chain(self):
        """The least chain."""
        return self._chain

    @property
    def leads(self):
        """The dict from the lead places, in their order, to the lead numbers."""
        leads = [None if row is None else row[at] for at, row in enumerate(self._rows)]
        return {place: lead for place, lead in zip(places(self._shape), leads) if lead is not None}

    def __contains__(self, value):
        return is_stair(self._shape, value) and has_member(self._plan, self._rows, value.numbers)

    def exponents(self, stair):
        """The exponents with which the chain members make a member."""
        check_stair(self._shape, stair)
        left, powers = divided(self._plan, self._rows, stair.numbers)
        if any(left):
            raise InvalidOperation("this stair is no member")
        found = dict(powers)
        return tuple([found.get(at, 0) for at, row in enumerate(self._rows) if row is not None])

    def member(self, exponents):
        """The member with these exponents."""
        if not isinstance(exponents, tuple) or len(exponents) != len(self._chain):
            raise InvalidOperation("there is one exponent for each chain member")
        if not all([is_integer(number) for number in exponents]):
            raise InvalidOperation("exponents are integers")
        found = ones(self._plan)
        for one, number in zip(self._chain, exponents):
            found = times(self._plan, found, raised(self._plan, one.numbers, number))
        return stair_with(self._shape, self._plan, found)

    def is_within(self, other):
        """Whether all members are members of the other lot, too."""
        check_lot_of(self._shape, other)
        return all([has_member(self._plan, other._rows, one.numbers) for one in self._chain])

    def index_in(self, other):
        """The index of this lot in the other one, or None."""
        if not self.is_within(other):
            raise InvalidOperation("this lot is not within the other one")
        found = 1
        for at, row in enumerate(self._rows):
            outer = other._rows[at]
            if row is None and outer is not None:
                return None
            if row is not None:
                found = found * (row[at] // outer[at])
        return found

    def __or__(self, other):
        if not isinstance(other, Lot):
            raise TypeError("only lots are joined")
        check_lot_of(self._shape, other)
        makers = [one.numbers for one in self._chain + other._chain]
        return lot_with(self._shape, self._plan, grown(self._plan, makers)[0])

    def __and__(self, other):
        if not isinstance(other, Lot):
            raise TypeError("only lots have a common part")
        check_lot_of(self._shape, other)
        return lot_with(self._shape, self._plan, common_chain(self._plan, self._rows, other._rows))

    def __eq__(self, other):
        return isinstance(other, Lot) and self._shape == other._shape and self._rows == other._rows

    def __len__(self):
        return len(self._chain)

    def __bool__(self):
        return bool(self._chain)

    def __iter__(self):
        return iter(self._chain)

    def __str__(self):
        return f"lot of {len(self._chain)} in {self._shape}"


def members_of(shape, plan, rows):
    """The stairs of a chain, from the entries at each place or None."""
    return tuple([stair_with(shape, plan, row) for row in rows if row is not None])


def lot_with(shape, plan, rows):
    """The lot of a shape, whose plan is passed along, with this least chain, which are its makers as well."""
    # Nothing that is passed needs a check here: the least lot is made, and gets the rest.
    made = Lot(_LEAST_SHAPE, ())
    made._shape = shape
    made._plan = plan
    made._rows = tuple(rows)
    made._chain = members_of(shape, plan, rows)
    made._makers = made._chain
    return made


def lot_of_chain(shape, stairs):
    """The lot of a shape with these stairs as its least chain, or None if they are no least chain."""
    plan = plan_of(shape)
    if len(stairs) > len(plan):
        return None
    rows = grown(plan, [stair.numbers for stair in stairs])[0]
    if [row for row in rows if row is not None] != [stair.numbers for stair in stairs]:
        return None
    return lot_with(shape, plan, rows)


def plan_for(lot):
    """The plan of the shape of a lot."""
    return lot._plan


def rows_of(lot):
    """The least chain of a lot: for each index of a place the entries of the member that leads there, or None."""
    return lot._rows


def makers_of(lot):
    """The entries of a few stairs that make a lot: its makers, or its chain if this one is shorter."""
    return [one.numbers for one in (lot._makers if len(lot._makers) < len(lot._chain) else lot._chain)]


def check_lot(value):
    """InvalidLot unless the value is a lot."""
    if not isinstance(value, Lot):
        raise InvalidLot("this is no lot")


def check_lot_of(shape, value):
    """InvalidLot unless the value is a lot of the shape."""
    if not isinstance(value, Lot) or value._shape != shape:
        raise InvalidLot("this is no lot of the shape")
