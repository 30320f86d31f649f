"""Spans: the rows that are sums of multiples of logs, and the lots that belong to them."""

from stairlots.base.ratios import Ratio
from stairlots.base.shapes import check_shape, places
from stairlots.errors import InvalidSpan
from stairlots.lots.kernels import parted
from stairlots.lots.lots import check_lot, lot_with
from stairlots.roots.logs import bracket_of_logs, log_of
from stairlots.roots.rows import bottom_of, is_row
from stairlots.stair.stairs import stair_with
from stairlots.stair.tables import lead_at, lone, plan_of


def span_of(lot):
    """The least rows of the span of a lot."""
    check_lot(lot)
    found = []
    for stair in reversed(lot.chain):
        log = log_of(stair)
        first = log[lead_at(log)]
        found = [less_multiples([ratio.over(first) for ratio in log], found)] + found
    return tuple(found)


def is_span(shape, value):
    """Whether the value is a tuple of least rows of some span of the shape."""
    check_shape(shape)
    if not isinstance(value, tuple) or not all([is_row(shape, row) for row in value]):
        return False
    return are_least(value) and are_closed(shape, value)


def lot_of_span(shape, rows):
    """The lot of all stairs whose logs are in a span."""
    check_shape(shape)
    if not is_span(shape, rows):
        raise InvalidSpan("these are no least rows of a span of the shape")
    return lot_with_rows(shape, rows)


def lot_with_rows(shape, rows):
    """The lot that belongs to a span with these least rows."""
    plan = plan_of(shape)
    chain = [lone(plan, at, 1) for at in range(len(plan))]
    leads = [lead_at(row) for row in rows]
    # From place to place those stairs are kept that are equal there to tables with a log in the span. Of these, what is
    # left of the log at the next place is a sum, as nothing in the span can change it but for a lead.
    for at in range(len(plan)):
        if at not in leads:
            left = [left_at(shape, plan, rows, row, at) for row in chain[:at + 1]] + [Ratio(0) for _ in chain[at + 1:]]
            bottom = bottom_of(left)
            chain = parted(plan, chain, [ratio.top * (bottom // ratio.bottom) for ratio in left])[0]
    return lot_with(shape, plan, chain)


def left_at(shape, plan, rows, numbers, at):
    """What the multiples of rows leave at a place of the log of a stair with these entries, or of None."""
    if numbers is None:
        return Ratio(0)
    log = log_of(stair_with(shape, plan, numbers))
    found = log[at]
    for row in rows:
        if row[at]:
            found = found - log[lead_at(row)] * row[at]
    return found


def less_multiples(row, rows):
    """What is left of a row when it has 0 at the leads of least rows, whose multiples are taken away."""
    found = list(row)
    for other in rows:
        factor = found[lead_at(other)]
        if factor:
            found = [ratio - factor * more if more else ratio for ratio, more in zip(found, other)]
    return tuple(found)


def are_least(rows):
    """Whether rows are the least ones of the sums of their multiples."""
    leads = [lead_at(row) for row in rows]
    if None in leads or not all([one < other for one, other in zip(leads, leads[1:])]):
        return False
    wanted = [[Ratio(1 if one == other else 0) for other in leads] for one in leads]
    return wanted == [[row[lead] for lead in leads] for row in rows]


def are_closed(shape, rows):
    """Whether the brackets of least rows are sums of their multiples."""
    order = places(shape)
    leads = [order[lead_at(row)] for row in rows]
    far = [column - row for _, row, column in leads]
    # A bracket is 0 at all distances less than the sum of those of both leads.
    pairs = [(rows[i], rows[j]) for i in range(len(rows)) for j in range(i) if far[i] + far[j] < max(shape)]
    return all([not any(less_multiples(bracket_of_logs(shape, one, other), rows)) for one, other in pairs])
