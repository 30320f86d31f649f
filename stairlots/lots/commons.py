"""What two lots have in common, by their chains (see chains)."""

from stairlots.base.wholes import shared_divisor
from stairlots.lots.chains import shortened
from stairlots.stair.tables import ones, raised, times, undone


def kernel(plan, chain, values):
    """The chain of all members with the value 0, where a product has the sum of the values of its factors.

    `values` are those of the chain members, in their order. The least value so far is kept with a member that has it.
    """
    found = [None for _ in chain]
    holder, least = ones(plan), 0
    for at in reversed(range(len(chain))):
        member, value = chain[at], values[at]
        if member is None or value == 0:
            found[at] = member
        elif least == 0:
            holder, least = (member, value) if value > 0 else (undone(plan, member), -value)
        else:
            divisor, share, other_share = shared_divisor(value, least)
            made = powers_joined(plan, member, least // divisor, holder, -(value // divisor))
            holder = powers_joined(plan, member, share, holder, other_share)
            least = divisor
            found[at] = shortened(plan, found, made)[0]
            holder = shortened(plan, found, holder)[0]
    return tuple(found)


def powers_joined(plan, one, many, other, other_many):
    """The product of powers of two stairs."""
    return times(plan, raised(plan, one, many), raised(plan, other, other_many))


def doubled(plan):
    """The plan of pairs of stairs: the entries of the first one, then those of the second one."""
    size = len(plan)
    return plan + tuple([tuple([(low + size, high + size) for low, high in pairs]) for pairs in plan])


def pairs_chain(plan, one, other):
    """The chain of all pairs of a member of one lot and a member of the other one."""
    none = ones(plan)
    firsts = [None if member is None else member + none for member in one]
    seconds = [None if member is None else none + member for member in other]
    return tuple(firsts + seconds)


def difference_at(pair, at):
    """By how much the entries of both stairs of a pair differ; 0 for no pair."""
    return 0 if pair is None else pair[at] - pair[len(pair) // 2 + at]


def common_chain(plan, one, other):
    """The least chain of the common part of two lots with these least chains.

    Place by place the pairs are kept that are equal there, too: of pairs that are equal ahead, the difference of a
    product is the sum of the differences.
    """
    size = len(plan)
    plan_of_pairs = doubled(plan)
    chain = pairs_chain(plan, one, other)
    for at in range(size):
        chain = kernel(plan_of_pairs, chain, [difference_at(pair, at) for pair in chain])
    return tuple([None if pair is None else pair[:size] for pair in chain[:size]])
