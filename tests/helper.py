"""What the tests share: values of every kind that is refused, a second arithmetic, and made-up stairs."""

import random

from stairlots.base.ratios import Ratio
from stairlots.base.shapes import places
from stairlots.books.books import Book
from stairlots.books.polynomials import Polynomial
from stairlots.errors import InvalidShape, ParseError
from stairlots.lots.lots import Lot
from stairlots.maps.maps import LotMap
from stairlots.normal.rests import Rest
from stairlots.shadow.shadows import Shadow
from stairlots.stair.stairs import Stair

A = Stair.read("1 0/0")
B = Stair.read("0 0/1")
C = Stair.read("0 1/0")
ALL3 = Lot((3,), (A, B))
EVEN = Lot((3,), (A.power(2), B))
T = Stair.read("4 1/0")
U = Stair.read("4 0/0")
SLANT = Lot((3,), (T,))

LONGEST = 10 ** 60 - 1
TOO_LONG = 10 ** 60

SHAPES = ((2,), (3,), (4,), (5,), (6,), (2, 3), (3, 2), (4, 4), (6, 2), (2, 2, 2), (3, 3, 2), (4, 2, 2))

NUMBERS = (0, 1, -1, 2, 3, 6, LONGEST, -LONGEST, TOO_LONG, -TOO_LONG, 10 ** 99, -(10 ** 100 - 1))
OTHERS = (
    True, False, None, "", "1", "maker", "1 0/0", " \n~", "x" * 4000,
    (), (1,), (True,), (3,), (3, 2), (6, 3), (2, 2, 2, 2), (0, 0, 1), (0, 1, 2), ("maker", 0), ((1, 0), (0, 1)),
    ((((((((),),),),),),),), [], [3], [[[]]], [A], {}, {1: 2}, {(0, 0, 1): 1}, {"a": [{}]}, (None,), ("", []), (A, None),
    Ratio(1, 2), Ratio(3), A, Stair.one((2,)), Stair.one((2, 3)), ALL3, Lot((2,), ()), Shadow(ALL3, 2),
    (A, B), [A, B], (Ratio(1),), (Stair.one((2,)),), (A, Stair.one((4,))), InvalidShape("no"), ParseError(0),
    Rest(ALL3, Lot((3,), (C,))), LotMap(ALL3, (A.power(5), B)), (ALL3,), ("led", ALL3), ("map", LotMap(ALL3, (A, B))),
    Polynomial(0, {}), Polynomial(2, {(1, 0): Ratio(1, 2)}), {(1, 0): Ratio(1, 2)}, Book(ALL3), Book(Lot((2,), ())),
    (Ratio(1), Ratio(0), Ratio(1, 2)), ((Ratio(1), Ratio(0), Ratio(1, 2)),), (Ratio(1), Ratio(0), 0),
    [Ratio(1), Ratio(0), Ratio(0)], ("barred", True), ((1, 0, 0), (0, 1, 0), (0, 0, 2)),
)
VALUES = NUMBERS + OTHERS


def table_product(one, other):
    """The product of two whole tables."""
    size = len(one)
    inner = range(size)
    return tuple(tuple(sum(one[i][k] * other[k][j] for k in inner) for j in inner) for i in inner)


def product_tables(one, other):
    """The tables of the product of two stairs, from their tables."""
    return tuple(table_product(a, b) for a, b in zip(one.tables, other.tables))


def made_up_stair(source, shape, most, part=1.0):
    """A stair with entries from -most to most; some of them are 0."""
    return Stair(shape, {place: source.randint(-most, most) for place in places(shape) if source.random() < part})


def made_up_lot(source, shape, most, many, part=1.0):
    """A lot with so many makers."""
    return Lot(shape, tuple(made_up_stair(source, shape, most, part) for _ in range(many)))


def made_up_member(source, lot, most=5):
    """A product of some makers and of what undoes them."""
    found = Stair.one(lot.shape)
    for _ in range(4):
        if lot.makers:
            found = found * source.choice(lot.makers).power(source.randint(-most, most))
    return found


def sample_lots(seed, most=9, rounds=2, shapes=SHAPES):
    """Lots of all kinds of shapes, with no makers, one, and up to six."""
    source = random.Random(seed)
    found = []
    for shape in shapes:
        for many in (0, 1, 2, 3, 6):
            for _ in range(rounds):
                found.append(made_up_lot(source, shape, most, many, source.choice((0.2, 0.5, 1.0))))
    return found


def rest_of(stair, modulus):
    """The entries modulo an integer."""
    return tuple(number % modulus for number in stair.numbers)


def shadow_by_search(lot, modulus):
    """All rests of members: what comes of the makers, step by step."""
    first = rest_of(Stair.one(lot.shape), modulus)
    found, fresh = {first}, [first]
    order = places(lot.shape)
    while fresh:
        stair = Stair(lot.shape, dict(zip(order, fresh.pop())))
        for maker in lot.makers:
            made = rest_of(stair * maker, modulus)
            if made not in found:
                found.add(made)
                fresh.append(made)
    return found


def shadow_stairs(lot, modulus):
    """All rests of members as stairs."""
    order = places(lot.shape)
    return [Stair(lot.shape, dict(zip(order, numbers))) for numbers in sorted(shadow_by_search(lot, modulus))]


def small_cases(seed, shapes=((2,), (3,), (2, 3), (2, 2, 2), (4,)), most=4, size=700, moduli=(2, 3, 4, 6, 8, 9)):
    """Lots and moduli with so few members of their shadows that all can be looked at."""
    source = random.Random(seed)
    for shape in shapes:
        for many in (0, 1, 2, 3):
            for modulus in moduli:
                lot = made_up_lot(source, shape, most, many, source.choice((0.4, 1)))
                if modulus ** len(places(shape)) <= size:
                    yield lot, modulus, shadow_stairs(lot, modulus)


def long_single(shape, place, bits):
    """The stair whose only entry other than 0 is so great a power of 2."""
    stair = Stair.single(shape, place, 2 ** (bits % 100))
    for _ in range(bits // 100):
        stair = stair.power(2 ** 100)
    return stair


def sample_stair(source, lot, most):
    """A member, or what is near a member, or any stair."""
    kind = source.randrange(3)
    member = made_up_member(source, lot, 2)
    if kind == 0:
        return member
    if kind == 1:
        return member * made_up_stair(source, lot.shape, most, 0.2)
    return made_up_stair(source, lot.shape, most, source.choice((0.4, 1)))


def wrong_members(shape):
    """Values that are no stairs of the shape."""
    return [value for value in VALUES if not isinstance(value, Stair) or value.shape != shape]


def wrong_lots(shape):
    """Values that are no lots of the shape."""
    return [value for value in VALUES if not isinstance(value, Lot) or value.shape != shape]
