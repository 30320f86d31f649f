"""Grids: lists of rows of integers, and the sums of multiples of the rows."""

from math import gcd

from stairlots.base.wholes import shared_divisor


def kind_of(rows, many):
    """What is left of all rows of so many integers by the sums of multiples of some of them.

    It is told by the integers d of which each one, 0 or at least 2, is a divisor of the next one: as much is left as of
    rows of as many integers which count modulo d each, or as they are for d equal to 0.
    """
    left = stepped(rows)
    while not is_straight(left):
        left = stepped(turned(left))
    found = in_divisors([number for row in left for number in row if number])
    return tuple([number for number in found if number > 1] + [0 for _ in range(many - len(found))])


def stepped(rows):
    """Rows with the same sums of multiples: their first numbers other than 0 stand one further behind the other."""
    found = []
    waiting = [list(row) for row in rows if any(row)]
    while waiting:
        at = min([first_at(row) for row in waiting])
        here = [row for row in waiting if row[at]]
        waiting = [row for row in waiting if not row[at]]
        head = here[0]
        for row in here[1:]:
            head, left = cleared(head, row, at)
            if any(left):
                waiting.append(left)
        found = [less(row, head, at) for row in found] + [head]
    return found


def first_at(row):
    """The index of the first number other than 0."""
    return [at for at, number in enumerate(row) if number][0]


def cleared(head, row, at):
    """Two rows with the same sums of multiples: at the index one has the common divisor, and the other one 0."""
    divisor, share, other_share = shared_divisor(head[at], row[at])
    back, forth = -(row[at] // divisor), head[at] // divisor
    joined = [share * a + other_share * b for a, b in zip(head, row)]
    return joined, [back * a + forth * b for a, b in zip(head, row)]


def less(row, head, at):
    """The row with the least number at an index that multiples of the head leave."""
    many = row[at] // head[at]
    return [a - many * b for a, b in zip(row, head)]


def turned(rows):
    """The grid with its rows as columns."""
    return [list(column) for column in zip(*rows)]


def is_straight(rows):
    """Whether no row and no column has two numbers other than 0."""
    lines = rows + turned(rows)
    return all([len([number for number in line if number]) <= 1 for line in lines])


def in_divisors(numbers):
    """Integers of which as much is left as of these, each a divisor of the next one."""
    found = []
    for number in numbers:
        left = abs(number)
        ahead = []
        for other in found:
            divisor = gcd(other, left)
            ahead.append(divisor)
            left = other * left // divisor
        found = ahead + [left]
    return found
