"""Pairs of members that are the same by a normal lot."""

from stairlots.stair.tables import ones


def normal_pairs(plan, chain, normal):
    """The chain of all pairs of u and u * k, side by side, with a member u of a lot and a member k of a normal one."""
    none = ones(plan)
    firsts = [None if row is None else row + row for row in chain]
    return firsts + [None if row is None else none + row for row in normal]
