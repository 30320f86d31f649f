"""Tables of lots within a lot, by exponents and by entries.

The lot within another one is also told by a chain (see stairlots.lots.chains) with the stairs of the rows of its table:
it is closed, and leads wherever the other lot leads.
"""

from stairlots.base.wholes import divisors
from stairlots.lots.chains import has_member
from stairlots.stair.tables import bracket, lead_at, ones, raised, times


class Frame:
    """A lot within which tables are told.

    `spots` has the indices of its lead places, and `rows` the entries of its chain members. `meets` tells for two of
    these, by their indices i and j, with j at least i, the least index of one that is needed for the brackets of those
    from i on and those from j on; it is the number of chain members if all of these brackets are one.
    """

    def __init__(self, plan, chain):
        self.plan = plan
        self.spots = [at for at, row in enumerate(chain) if row is not None]
        self.rows = [row for row in chain if row is not None]
        self.meets = meets_of(plan, self.spots, self.rows)


def meets_of(plan, spots, rows):
    """The least indices that are needed for brackets of chain members (see Frame)."""
    many = len(rows)
    rank = {spot: index for index, spot in enumerate(spots)}
    found = [[many for _ in range(many + 1)] for _ in range(many + 1)]
    for i in reversed(range(many)):
        for j in reversed(range(i, many)):
            # A bracket leads where the difference of both products leads.
            there, back = times(plan, rows[i], rows[j]), times(plan, rows[j], rows[i])
            lead = lead_at([a - b for a, b in zip(there, back)])
            found[i][j] = min(many if lead is None else rank[lead], found[i + 1][max(i + 1, j)], found[i][j + 1])
    return found


def stair_of_row(frame, row):
    """The entries of the member with these exponents."""
    found = ones(frame.plan)
    for member, exponent in zip(frame.rows, row):
        if exponent:
            found = times(frame.plan, found, raised(frame.plan, member, exponent))
    return found


def least_exponents(frame, chain, numbers):
    """The exponents of the member with the least ones that powers of the members of a chain lead to from the right."""
    found = []
    for spot, member in zip(frame.spots, frame.rows):
        exponent = numbers[spot] // member[spot]
        if chain[spot] is not None:
            # It leads further behind than the member itself: its exponent there is the quotient of both.
            many = exponent // (chain[spot][spot] // member[spot])
            if many:
                numbers = times(frame.plan, numbers, raised(frame.plan, chain[spot], -many))
                exponent = numbers[spot] // member[spot]
        if exponent:
            numbers = times(frame.plan, raised(frame.plan, member, -exponent), numbers)
        found.append(exponent)
    return tuple(found)


def table_of(frame, inner):
    """The table of the lot with this chain, which leads wherever the lot of the frame leads."""
    found = []
    behind = [None for _ in inner]
    for spot in reversed(frame.spots):
        found.append(least_exponents(frame, behind, inner[spot]))
        behind[spot] = inner[spot]
    return tuple(reversed(found))


def deepest(table, many):
    """The index behind which all leads of the last rows of a table, of so many rows in all, are 1."""
    first = many - len(table)
    return max([at for at, row in enumerate(table, first) if row[at] > 1], default=first - 1)


def fits(frame, chain, numbers, at, table):
    """Whether the brackets of the stair of a row with this index and of those of the rows behind are in their lot."""
    last = deepest(table, len(frame.rows))
    for index in range(at + 1, len(frame.rows)):
        if frame.meets[at][index] > last:
            # Here and from here on the brackets are all in what the lot has of the other one whatever stands ahead.
            return True
        if not has_member(frame.plan, chain, bracket(frame.plan, numbers, chain[frame.spots[index]])):
            return False
    return True


def chain_of_table(frame, table):
    """The chain of the stairs of the rows of a table, or None if it is not the table of a lot."""
    many = len(frame.rows)
    found = [None for _ in frame.plan]
    for at in reversed(range(many)):
        numbers = stair_of_row(frame, table[at])
        if not fits(frame, found, numbers, at, table[at + 1:]):
            return None
        found[frame.spots[at]] = numbers
    return found


def rows_ahead(frame, at, lead, table):
    """The rows with this index and lead, each with its stair, that can stand ahead of the last rows of a table."""
    found = [((0,) * at + (lead,), raised(frame.plan, frame.rows[at], lead))]
    for index, row in enumerate(table, at + 1):
        powers = [raised(frame.plan, frame.rows[index], exponent) for exponent in range(row[index])]
        found = [(start + (exponent,), times(frame.plan, numbers, power) if exponent else numbers)
                 for start, numbers in found for exponent, power in enumerate(powers)]
    return found


def tables_of_index(frame, number):
    """The pairs of the table and the chain of all lots with an index, ascending by the tables."""
    leads = divisors(number)
    many = len(frame.rows)
    found = [((), [None for _ in frame.plan], number)]
    for at in reversed(range(many)):
        fresh = []
        for table, chain, left in found:
            for lead in [one for one in leads if left % one == 0 and (at > 0 or one == left)]:
                for row, numbers in rows_ahead(frame, at, lead, table):
                    if fits(frame, chain, numbers, at, table):
                        fresh.append(((row,) + table, with_row(chain, frame.spots[at], numbers), left // lead))
        found = list(fresh)
    return sorted([(table, chain) for table, chain, left in found if left == 1], key=lambda pair: pair[0])


def with_row(chain, spot, numbers):
    """The chain with a further member."""
    return chain[:spot] + [numbers] + chain[spot + 1:]
