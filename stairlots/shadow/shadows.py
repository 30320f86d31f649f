"""Shadows: what is left of a lot when all entries are taken modulo an integer."""

from stairlots.base.shapes import places
from stairlots.base.wholes import is_whole, power_of_ten
from stairlots.errors import InvalidNumber, TooMany
from stairlots.lots.chains import divided, grown
from stairlots.lots.lots import check_lot, members_of
from stairlots.stair.stairs import is_stair, stair_with
from stairlots.stair.tables import lone, ones, plan_of, raised, rest, times

MAX_SHADOW_DIGITS = 4000
MAX_MEMBERS = 5000


class Shadow:
    """The shadow of a lot modulo an integer. It never changes."""

    def __init__(self, lot, modulus):
        check_lot(lot)
        if not is_modulus(modulus):
            raise InvalidNumber(modulus)
        self._lot = lot
        self._modulus = modulus
        self._rows = shadow_rows(lot, modulus)
        self._chain = members_of(lot.shape, self._rows)

    @property
    def lot(self):
        """The lot, as it was passed."""
        return self._lot

    @property
    def modulus(self):
        """The modulus."""
        return self._modulus

    @property
    def chain(self):
        """The chain, with entries from 0 to the modulus less 1."""
        return self._chain

    @property
    def leads(self):
        """The dict from the places at which members lead, in their order, to the leads."""
        leads = [None if row is None else row[at] for at, row in enumerate(self._rows)]
        return {place: lead for place, lead in zip(places(self._lot.shape), leads) if lead is not None}

    @property
    def size(self):
        """The number of the members."""
        found = 1
        for at, row in enumerate(self._rows):
            if row is not None:
                found = found * (self._modulus // row[at])
        return found

    def __contains__(self, value):
        if not is_stair(self._lot.shape, value):
            return False
        numbers = rest(value.numbers, self._modulus)
        return not any(divided(plan_of(self._lot.shape), self._rows, numbers, self._modulus)[0])

    def members(self):
        """All members, as rests, ascending by their exponents."""
        if self.size > MAX_MEMBERS:
            raise TooMany(MAX_MEMBERS)
        for numbers in all_rests(self):
            yield stair_with(self._lot.shape, numbers)

    def __eq__(self, other):
        return isinstance(other, Shadow) and key_of(self) == key_of(other)

    def __len__(self):
        return len(self._chain)

    def __str__(self):
        return f"shadow of {len(self._chain)} in {self._lot.shape} modulo {self._modulus}"


def is_modulus(value):
    """Whether the value is an integer of at least 2 with at most 4000 digits."""
    return is_whole(value) and 2 <= value < power_of_ten(MAX_SHADOW_DIGITS)


def key_of(shadow):
    """What two shadows share if they have the same modulus and the same members."""
    return shadow._modulus, shadow._lot.shape, shadow._rows


def shadow_rows(lot, modulus):
    """The entries of the chain members of the shadow, for each place or None.

    All stairs whose entries are multiples of the modulus are taken in beside the lot; the chain of both has a lead at
    each place, and those that are the modulus itself are none of the shadow.
    """
    plan = plan_of(lot.shape)
    makers = [rest(one.numbers, modulus) for one in lot.chain]
    multiples = [lone(plan, at, modulus) for at in range(len(plan))]
    chain = grown(plan, makers + multiples, modulus)[0]
    return tuple([None if row[at] == modulus else row for at, row in enumerate(chain)])


def powers_of(plan, one, many, modulus):
    """The entries of the powers with the exponents from 0 to `many` less 1."""
    return [raised(plan, one, exponent, modulus) for exponent in range(many)]


def all_rests(shadow):
    """The entries of all members, ascending by their exponents."""
    plan = plan_of(shadow._lot.shape)
    modulus = shadow._modulus
    found = [ones(plan)]
    for at, row in enumerate(shadow._rows):
        if row is not None:
            powers = powers_of(plan, row, modulus // row[at], modulus)
            found = [times(plan, one, power, modulus) for one in found for power in powers]
    return found
