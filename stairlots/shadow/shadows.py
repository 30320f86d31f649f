"""Shadows: what is left of a lot when all entries are taken modulo an integer."""

from stairlots.base.shapes import places
from stairlots.base.wholes import is_modulus
from stairlots.errors import InvalidNumber, TooMany
from stairlots.lots.chains import divided, least_rows
from stairlots.lots.kernels import parted
from stairlots.lots.lots import check_lot, members_of, plan_for, rows_of
from stairlots.lots.walks import rests_of
from stairlots.stair.stairs import is_stair, stair_with
from stairlots.stair.tables import ones, raised, rest, times

MAX_SHADOW_DIGITS = 4000
MAX_MEMBERS = 5000


class Shadow:
    """The shadow of a lot modulo an integer. It never changes."""

    def __init__(self, lot, modulus):
        check_lot(lot)
        if not is_modulus(modulus):
            raise InvalidNumber(modulus)
        self._lot = lot
        self._modulus = modulus
        self._plan = plan_for(lot)
        self._rows = tuple(shadow_rows(self._plan, rows_of(lot), modulus))
        self._chain = members_of(lot.shape, self._plan, self._rows)

    @property
    def lot(self):
        """The lot, as it was passed."""
        return self._lot

    @property
    def modulus(self):
        """The modulus."""
        return self._modulus

    @property
    def chain(self):
        """The chain, with entries from 0 to the modulus less 1."""
        return self._chain

    @property
    def leads(self):
        """The dict from the places at which members lead, in their order, to the leads."""
        leads = [None if row is None else row[at] for at, row in enumerate(self._rows)]
        return {place: lead for place, lead in zip(places(self._lot.shape), leads) if lead is not None}

    @property
    def size(self):
        """The number of the members."""
        found = 1
        for at, row in enumerate(self._rows):
            if row is not None:
                found = found * (self._modulus // row[at])
        return found

    def __contains__(self, value):
        if not is_stair(self._lot.shape, value):
            return False
        numbers = rest(value.numbers, self._modulus)
        return not any(divided(self._plan, self._rows, numbers, self._modulus)[0])

    def members(self):
        """All members, as rests, ascending by their exponents."""
        if self.size > MAX_MEMBERS:
            raise TooMany(MAX_MEMBERS)
        for numbers in all_rests(self):
            yield stair_with(self._lot.shape, self._plan, numbers)

    def __eq__(self, other):
        return isinstance(other, Shadow) and key_of(self) == key_of(other)

    def __len__(self):
        return len(self._chain)

    def __str__(self):
        return f"shadow of {len(self._chain)} in {self._lot.shape} modulo {self._modulus}"


def key_of(shadow):
    """What two shadows share if they have the same modulus and the same members."""
    return shadow._modulus, shadow._lot.shape, shadow._rows


def shadow_rows(plan, chain, modulus):
    """The chain of the shadow of a lot with this chain: for each index of a place the entries, or None.

    Place by place those members are kept whose rests are 0 up to there: of these, the entry of a product is the sum of
    the entries, and the one with the least rest above 0 belongs to the chain of the shadow.
    """
    found = []
    rows = rests_of(chain, modulus)
    for at in range(len(plan)):
        values = [0 if row is None else row[at] for row in rows]
        rows, holder, least = parted(plan, rows, values, modulus, modulus)
        found.append(None if least == modulus else holder)
    return least_rows(plan, found, modulus)


def powers_of(plan, one, many, modulus):
    """The entries of the powers with the exponents from 0 to `many` less 1."""
    return [raised(plan, one, exponent, modulus) for exponent in range(many)]


def all_rests(shadow):
    """The entries of all members, ascending by their exponents."""
    plan = shadow._plan
    modulus = shadow._modulus
    found = [ones(plan)]
    for at, row in enumerate(shadow._rows):
        if row is not None:
            powers = powers_of(plan, row, modulus // row[at], modulus)
            found = [times(plan, one, power, modulus) for one in found for power in powers]
    return found
