"""Ways of numbers: what a lot makes of one number for each row."""

from stairlots.base.shapes import places
from stairlots.base.wholes import is_integer, is_modulus
from stairlots.errors import InvalidOperation, InvalidStair
from stairlots.lots.lots import check_lot, lot_with, plan_for, rows_of
from stairlots.lots.walks import bars, mover_or_bar, walk
from stairlots.stair.stairs import Stair, stair_with

MAX_DIGITS = 4000


def done(stair, numbers):
    """What the stair makes of the numbers."""
    if not isinstance(stair, Stair):
        raise InvalidStair("only a stair is done to numbers")
    check_numbers(stair.shape, numbers)
    return made_of(stair, numbers)


def are_led(lot, numbers, wish):
    """Whether the lot leads the numbers to the wish."""
    check_both(lot, numbers, wish)
    return walk(plan_for(lot), rows_of(lot), road_of_rows(lot.shape), numbers, wish).lack == 0


def way_paper(lot, numbers, wish):
    """Any paper on it: a member that makes the wish of the numbers, or a modulus that bars it."""
    check_both(lot, numbers, wish)
    plan = plan_for(lot)
    mover, number = mover_or_bar(plan, rows_of(lot), road_of_rows(lot.shape), numbers, wish)
    return ("barred", number) if mover is None else ("led", stair_with(lot.shape, plan, mover))


def is_way_paper(lot, numbers, wish, value):
    """Whether the value is a way paper."""
    check_both(lot, numbers, wish)
    if not isinstance(value, tuple) or len(value) != 2:
        return False
    kind, told = value
    if kind == "led":
        return told in lot and made_of(told, numbers) == wish
    if kind != "barred" or not is_modulus(told):
        return False
    return bars(plan_for(lot), rows_of(lot), road_of_rows(lot.shape), numbers, wish, told)


def staying(lot, numbers):
    """The lot of all members that keep the numbers."""
    gone = walk_in_place(lot, numbers)
    return lot_with(lot.shape, plan_for(lot), gone.kept)


def steps_along(lot, numbers):
    """The steps of the rows."""
    gone = walk_in_place(lot, numbers)
    found = dict(zip(settled_rows(lot.shape), gone.strides))
    return tuple([found[row] for row in sorted(found)])


def least_numbers(lot, numbers):
    """The least numbers of the way."""
    check_lot(lot)
    check_numbers(lot.shape, numbers)
    return tuple(walk(plan_for(lot), rows_of(lot), road_of_rows(lot.shape), numbers, None).reached)


def check_numbers(shape, value):
    """InvalidOperation unless the value is a tuple of integers, one for each row of the shape."""
    if not isinstance(value, tuple) or len(value) != sum(shape):
        raise InvalidOperation("there is one number for each row")
    if not all([is_integer(number) for number in value]):
        raise InvalidOperation("numbers are integers")


def check_both(lot, numbers, wish):
    """The errors of a lot, numbers and a wish."""
    check_lot(lot)
    check_numbers(lot.shape, numbers)
    check_numbers(lot.shape, wish)


def walk_in_place(lot, numbers):
    """The walk from the numbers to themselves."""
    check_lot(lot)
    check_numbers(lot.shape, numbers)
    return walk(plan_for(lot), rows_of(lot), road_of_rows(lot.shape), numbers, numbers)


def made_of(stair, numbers):
    """What the stair makes of numbers of any length."""
    first = first_rows(stair.shape)
    found = list(numbers)
    for (block, row, column), entry in zip(places(stair.shape), stair.numbers):
        found[first[block] + row] = found[first[block] + row] + entry * numbers[first[block] + column]
    return tuple(found)


def first_rows(shape):
    """For each block how many rows stand ahead of it."""
    return [sum(shape[:block]) for block in range(len(shape))]


def settled_rows(shape):
    """The rows, counted through all blocks, in the order in which they are settled: the last ones first."""
    first = first_rows(shape)
    sizes = list(enumerate(shape))
    return [first[block] + size - 1 - distance for distance in range(max(shape)) for block, size in sizes
            if distance < size]


def road_of_rows(shape):
    """The road (see walks) on which a member leads numbers."""
    first = first_rows(shape)
    order = places(shape)
    uses = [(at, first[block] + row, first[block] + column) for at, (block, row, column) in enumerate(order)]
    return [(row, [(at, behind) for at, here, behind in uses if here == row], []) for row in settled_rows(shape)]
