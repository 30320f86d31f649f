"""Lots of an index: all lots within a lot that have it there."""

from stairlots.base.wholes import is_between, is_integer, is_whole
from stairlots.errors import InvalidNumber, InvalidOperation, TooMany
from stairlots.index.counts import candidates, lots_of_power, normal_of_power, prime_powers
from stairlots.index.tables import Frame, chain_of_table, table_of, tables_of_index
from stairlots.lots.chains import has_member, least_rows
from stairlots.lots.kernels import common_chain
from stairlots.lots.lots import check_lot, check_lot_of, lot_with, makers_of, plan_for, rows_of
from stairlots.normal.normals import is_kept
from stairlots.stair.tables import bracket, led

MAX_INDEX = 10 ** 6
MAX_CANDIDATES = 20000


def table_in(lot, inner):
    """The table of an inner lot."""
    check_lot(lot)
    check_lot_of(lot.shape, inner)
    if inner.index_in(lot) is None:
        raise InvalidOperation("the lot has no finite index in the other one")
    return table_of(frame_of(lot), rows_of(inner))


def lot_of_table(lot, table):
    """The inner lot with a table."""
    check_lot(lot)
    if not are_rows(len(lot), table) or not all([is_integer(number) for row in table for number in row]):
        raise InvalidOperation("this is no table")
    chain = chain_of_table(frame_of(lot), table)
    if chain is None:
        raise InvalidOperation("this is no table of a lot")
    return inner_lot(lot, chain)


def is_table(lot, value):
    """Whether the value is the table of an inner lot."""
    check_lot(lot)
    return are_rows(len(lot), value) and chain_of_table(frame_of(lot), value) is not None


def count_candidates(lot, number):
    """The number of candidates for an index."""
    check_lot(lot)
    check_index(number)
    return candidates(len(lot), number)


def lots_of_index(lot, number):
    """The tuple of all inner lots of an index, by ascending tables."""
    return tuple([inner_lot(lot, chain) for chain in chains_of_index(lot, number)])


def count_of_index(lot, number):
    """The number of these lots."""
    return len(chains_of_index(lot, number))


def normal_of_index(lot, number):
    """The tuple of those of these lots that are normal."""
    lots = lots_of_index(lot, number)
    plan, movers = plan_for(lot), movers_of(lot)
    return tuple([inner for inner in lots if is_kept(plan, rows_of(inner), movers)])


def classes_of_index(lot, number):
    """The tuple of the classes of these lots."""
    lots = lots_of_index(lot, number)
    plan, movers = plan_for(lot), movers_of(lot)
    known = {rows_of(inner): at for at, inner in enumerate(lots)}
    seen = {}
    found = []
    for first in range(len(lots)):
        if first in seen:
            continue
        seen[first] = True
        waiting = [first]
        members = [first]
        while waiting:
            rows = rows_of(lots[waiting.pop()])
            for mover in movers:
                at = known[moved_rows(plan, rows, mover)]
                if at not in seen:
                    seen[at] = True
                    waiting.append(at)
                    members.append(at)
        found.append(tuple([lots[at] for at in sorted(members)]))
    return tuple(found)


def meet_of_index(lot, number):
    """The common part of all these lots, or None if there is none."""
    chains = chains_of_index(lot, number)
    plan = plan_for(lot)
    found = None
    for chain in chains:
        if found is None:
            found = least_rows(plan, chain)
        elif not all([row is None or has_member(plan, chain, row) for row in found]):
            found = common_chain(plan, found, least_rows(plan, chain))
    return None if found is None else lot_with(lot.shape, plan, found)


def three_lots(number):
    """The number of the lots of an index in all stairs of the shape (3,)."""
    check_index(number)
    found = 1
    for prime, many in prime_powers(number):
        found = found * lots_of_power(prime, many)
    return found


def three_normal(number):
    """The number of the normal ones of these lots."""
    check_index(number)
    found = 1
    for prime, many in prime_powers(number):
        found = found * normal_of_power(prime, many)
    return found


def check_index(number):
    """InvalidNumber unless the value is an integer from 1 to MAX_INDEX."""
    if not is_between(number, 1, MAX_INDEX):
        raise InvalidNumber(number)


def are_rows(many, value):
    """Whether the value is a tuple of so many rows as those of a table, whether or not it is the table of a lot."""
    if not isinstance(value, tuple) or len(value) != many:
        return False
    if not all([isinstance(row, tuple) and len(row) == many for row in value]):
        return False
    if not all([is_whole(number) for row in value for number in row]):
        return False
    leads = [row[at] for at, row in enumerate(value)]
    return all([is_row_with(row, at, leads) for at, row in enumerate(value)])


def is_row_with(row, at, leads):
    """Whether integers are a row with this index of a table with these leads."""
    if any(row[:at]) or row[at] < 1:
        return False
    return all([0 <= number < lead for number, lead in zip(row[at + 1:], leads[at + 1:])])


def movers_of(lot):
    """The makers of a lot but for those that commute with all members."""
    plan = plan_for(lot)
    rows = [row for row in rows_of(lot) if row is not None]
    return [one for one in makers_of(lot) if any([any(bracket(plan, one, row)) for row in rows])]


def frame_of(lot):
    """The frame of the tables in a lot."""
    return Frame(plan_for(lot), rows_of(lot))


def inner_lot(lot, chain):
    """The lot with a closed chain."""
    return lot_with(lot.shape, plan_for(lot), least_rows(plan_for(lot), chain))


def chains_of_index(lot, number):
    """The closed chains of all inner lots of an index, by ascending tables."""
    check_lot(lot)
    check_index(number)
    if candidates(len(lot), number) > MAX_CANDIDATES:
        raise TooMany(MAX_CANDIDATES)
    return [chain for _, chain in tables_of_index(frame_of(lot), number)]


def moved_rows(plan, rows, mover):
    """The least chain of the lot into which a stair leads the lot with this chain."""
    return tuple(least_rows(plan, [None if row is None else led(plan, row, mover) for row in rows]))
