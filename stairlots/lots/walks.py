"""How the members of a lot lead points to points, number by number.

A point is a tuple of integers. A road tells how a member leads a point: it has, in the order in which the numbers are
settled, for each number its index and two lists of pairs. A pair is an index of a member's entries and one of a point's
numbers. The new number is the old one, and for each pair of the first list the entry times the old number there, less
for each pair of the second list the entry times the new number there, which is settled ahead.

So among the members that keep all numbers ahead, the changes of a number are a sum (see kernels).
"""

from math import gcd

from stairlots.base.wholes import is_short
from stairlots.errors import TooMany
from stairlots.lots.kernels import parted
from stairlots.stair.tables import ones, raised, rest, times

MAX_DIGITS = 4000


class Walk:
    """What a walk from a start has found.

    `kept` is the chain of the members that keep all numbers that were reached. `strides` has for each number the least
    change above 0 of the members that keep all numbers ahead, or 0; modulo an integer it is a divisor of this one.
    `reached` has the numbers, and `mover` the entries of a member that leads there. `lack` is what is lacking at the
    first number that cannot be led to the wish, and then its stride is the last one; it is 0 if all are led there.
    """

    def __init__(self, kept, strides, reached, mover, lack):
        self.kept = kept
        self.strides = strides
        self.reached = reached
        self.mover = mover
        self.lack = lack


def walk(plan, chain, road, start, wish, modulus=0):
    """The walk from the start to the wish, or, without a wish, to the least numbers of the way."""
    rows = rests_of(chain, modulus)
    start = rest(start, modulus)
    reached = list(start)
    mover = ones(plan)
    strides = []
    for at, plus, minus in road:
        form = form_of(plus, reached, minus, reached)
        values = [0 if row is None else value_at(form, row, modulus) for row in rows]
        rows, holder, step = parted(plan, rows, values, modulus, modulus)
        strides.append(step)
        now = start[at] + value_at(form_of(plus, start, minus, reached), mover, modulus)
        goal = wanted(wish, at, now, step)
        times_needed, lack = shared_out(goal - now, step, modulus)
        if lack:
            return Walk(rows, strides, reached, mover, lack)
        if times_needed:
            moved = times(plan, raised(plan, holder, times_needed, modulus), mover, modulus)
            mover = moved if modulus else lessened(plan, rows, moved)
        reached[at] = goal % modulus if modulus else goal
    return Walk(rows, strides, reached, mover, 0)


def wanted(wish, at, now, step):
    """The number to be reached at an index, from the number that stands there now."""
    if wish is not None:
        return wish[at]
    return now % step if step else now


def shared_out(lack, step, modulus):
    """How many times the step is to be gone for what is lacking, and what is lacking still."""
    if modulus:
        lack = lack % modulus
    if step == 0:
        return 0, lack
    return (0, lack) if lack % step else (lack // step, 0)


def form_of(plus, old, minus, new):
    """For some indices of a member's entries the factors that tell how it changes a number."""
    found = [(index, old[at]) for index, at in plus if old[at]]
    return found + [(index, -new[at]) for index, at in minus if new[at]]


def value_at(form, numbers, modulus):
    """The sum of the entries times their factors."""
    found = 0
    for index, factor in form:
        found = found + numbers[index] * factor
    return found % modulus if modulus else found


def rests_of(chain, modulus):
    """The rests of the members of a chain; with a modulus None for those that are one."""
    if modulus == 0:
        return list(chain)
    found = [None if row is None else rest(row, modulus) for row in chain]
    return [row if row is not None and any(row) else None for row in found]


def lessened(plan, chain, numbers):
    """The stair with the least entries at the lead places of a chain, whose members it is multiplied by from the left.

    It keeps the entries of what moves a point small: they would grow from number to number.
    """
    for at, row in enumerate(chain):
        if row is not None and not 0 <= numbers[at] < row[at]:
            numbers = times(plan, raised(plan, row, -(numbers[at] // row[at])), numbers)
    return numbers


def bars(plan, chain, road, start, wish, modulus):
    """Whether no member leads the start to the wish modulo an integer."""
    return walk(plan, chain, road, start, wish, modulus).lack != 0


def mover_or_bar(plan, chain, road, start, wish):
    """The entries of a member that leads the start to the wish, and None; or None, and a modulus that bars it.

    Some power of the first number that is looked at bars it, and then each multiple of this power does.
    """
    gone = walk(plan, chain, road, start, wish)
    if gone.lack == 0:
        return gone.mover, None
    step = gone.strides[-1]
    number = step // gcd(step, gone.lack) if step else 2
    while is_short(number):
        if bars(plan, chain, road, start, wish, number):
            return None, number
        number = number * number
    raise TooMany(MAX_DIGITS)
