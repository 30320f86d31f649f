"""Kernels of sums on lots, by the chains of these (see chains).

A sum gives each member an integer, and a product the sum of what it gives the factors.
"""

from stairlots.base.wholes import shared_divisor
from stairlots.lots.chains import shortened
from stairlots.stair.tables import beside, ones, raised, times, undone


def parted(plan, chain, values, least=0, modulus=0):
    """The chain of all members with the value 0, a member with the least value above 0, and this value.

    `values` are those of the chain members. With `least` other than 0 they count modulo it, and it is returned if all
    members have the value 0. The members with a value are gone through from behind: the multiples of the least one so
    far are taken off the value of the next one, and a common divisor is the least one then.
    """
    found = list(chain)
    holder = ones(plan)
    for at in reversed(range(len(chain))):
        member, value = chain[at], values[at]
        if value == 0:
            continue
        if least == 0:
            found[at] = None
            holder = member if value > 0 else undone(plan, member, modulus)
            least = abs(value)
            continue
        divisor, share, other_share = shared_divisor(value, least)
        made = joined_powers(plan, member, least // divisor, holder, -(value // divisor), modulus)
        if divisor < least:
            # The members behind are those with the value 0: they change no value.
            raw = joined_powers(plan, member, share, holder, other_share, modulus)
            holder = smaller(plan, found, raw, modulus)
            least = divisor
        found[at] = smaller(plan, found, made, modulus) if any(made) else None
    return found, holder, least


def smaller(plan, chain, numbers, modulus):
    """The stair with the least entries behind its lead; with a modulus itself, as no leads are known then."""
    return numbers if modulus else shortened(plan, chain, numbers)[0]


def joined_powers(plan, one, many, other, other_many, modulus):
    """The product of powers of two stairs."""
    return times(plan, raised(plan, one, many, modulus), raised(plan, other, other_many, modulus), modulus)


def narrowed(plan, chain, one, other, many):
    """The chain of all members whose entries at so many indices from `one` on are equal to those from `other` on.

    Where the entries ahead are equal, the difference of a product is the sum of the differences.
    """
    for at in range(many):
        values = [0 if row is None else row[one + at] - row[other + at] for row in chain]
        chain = parted(plan, chain, values)[0]
    return chain


def pairs_of(plan, one, other_plan, other):
    """The chain of all pairs, side by side, of members of two lots with these plans and chains."""
    ahead, behind = ones(plan), ones(other_plan)
    firsts = [None if row is None else row + behind for row in one]
    return firsts + [None if row is None else ahead + row for row in other]


def common_chain(plan, one, other):
    """The least chain of the common part of two lots with these least chains."""
    size = len(plan)
    chain = narrowed(beside(plan, plan), pairs_of(plan, one, plan, other), 0, size, size)
    return tuple([None if row is None else row[:size] for row in chain[:size]])
