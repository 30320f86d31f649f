"""[10.2] to [10.7], [0.15], [0.21] and the class Rest."""

import itertools
import math
import random
import unittest

from stairlots.base.wholes import is_integer
from stairlots.errors import InvalidLot, InvalidOperation, InvalidStair, TooMany
from stairlots.lots.lots import Lot
from stairlots.normal.brackets import lot_of_brackets
from stairlots.normal.normals import closure, is_normal
from stairlots.normal.rests import Rest
from stairlots.stair.stairs import Stair
from tests.helper import (A, ALL3, B, C, EVEN, LONGEST, SHAPES, VALUES, long_single, made_up_lot, made_up_member, rest_of,
                          sample_lots, shadow_stairs, wrong_lots)

LARGEST = 10 ** 4000 - 1
TWOS = Lot((3,), (A.power(2), B.power(2), C.power(2)))


def samples(seed, most=4):
    """What is left of lots by normal lots, some of them of finite index."""
    source = random.Random(seed)
    for lot in sample_lots(seed, most, 1) + sample_lots(seed + 1, LONGEST, 1, ((2,), (3,), (4,), (2, 3), (6, 2))):
        members = tuple(made_up_member(source, lot, 2).power(source.randint(1, 4)) for _ in range(source.randint(0, 3)))
        yield source, Rest(lot, closure(lot, Lot(lot.shape, members)))
        powers = tuple(stair.power(source.randint(1, 3)) for stair in lot.chain[:6])
        yield source, Rest(lot, closure(lot, Lot(lot.shape, powers)))


def small_rests(seed, most=64):
    """What is left of lots with few classes."""
    source = random.Random(seed)
    for shape in ((2,), (3,), (2, 3), (2, 2, 2), (4,), (3, 3)) * 5:
        lot = made_up_lot(source, shape, 3, source.randint(1, 3), 0.7)
        powers = tuple(stair.power(source.randint(1, 3)) for stair in lot.chain[:6])
        rest = Rest(lot, closure(lot, Lot(lot.shape, powers)))
        if rest.size is not None and rest.size <= most:
            yield source, rest


def some_member(source, lot):
    """A member of a lot."""
    return lot.member(tuple(source.randint(-4, 4) for _ in lot.chain))


class ExampleTest(unittest.TestCase):
    def test_document(self):
        x, y, z = [Stair.read(text) for text in ("1 0/0", "0 0/1", "0 1/0")]
        whole, few = Lot.every((3,)), Lot((3,), (x.power(2), z.power(2)))
        rest = Rest(whole, few)
        self.assertEqual([rest.size, rest.kind, str(rest.least(Stair.read("3 5/2"))),
                          [rest.order(one) for one in (x, z, x * z, y)], str(rest)],
                         [None, (2, 0), "1 1/2", [2, 2, 2, None], "rest of 3 by 2"])
        self.assertEqual([rest.are_alike(x, x * z), rest.is_alike_paper(x, x * z, ("led", y)),
                          rest.is_alike_paper(x, x * y, ("barred", 2)), rest.is_alike_paper(x, x * z, ("barred", 2))],
                         [True, True, True, False])
        both = Rest(whole, Lot((3,), (x.power(2), y.power(2), z.power(2))))
        self.assertEqual([both.size, both.kind, both.order(x * y), [str(one) for one in both.members()][:3]],
                         [8, (2, 2), 4, ["0 0/0", "0 1/0", "0 0/1"]])


class ClassTest(unittest.TestCase):
    def test_10_2_least_members(self):
        for source, rest in samples(1):
            lot, normal = rest.lot, rest.normal
            for _ in range(3):
                stair = some_member(source, lot)
                least = rest.least(stair)
                self.assertIn(~stair * least, normal)
                for place, lead in normal.leads.items():
                    self.assertIn(least.entries.get(place, 0), range(lead))
                self.assertEqual(rest.least(least), least)
                other = stair * some_member(source, normal)
                self.assertEqual(rest.least(other), least)
                self.assertIs(rest.is_same(stair, other), True)

    def test_10_2_members_that_are_the_same(self):
        found = {True: 0, False: 0}
        for source, rest in samples(2):
            x, y = some_member(source, rest.lot), some_member(source, rest.lot)
            for other in (y, x * some_member(source, rest.normal), x * some_member(source, rest.normal).power(2) * y.power(6)):
                wanted = ~x * other in rest.normal
                found[wanted] += 1
                self.assertIs(rest.is_same(x, other), wanted)
                self.assertIs(rest.least(x) == rest.least(other), wanted)
                if wanted:
                    self.assertIs(rest.is_same(x * y, other * y), True)
                    self.assertIs(rest.is_same(y * x, y * other), True)
        self.assertGreater(min(found.values()), 50)

    def test_10_3_orders(self):
        found = {True: 0, False: 0}
        for source, rest in samples(3):
            for stair in rest.lot.chain[:3] + (some_member(source, rest.lot), some_member(source, rest.normal)):
                many = rest.order(stair)
                found[many is None] += 1
                if many is None:
                    self.assertIsNone(rest.size)
                    for number in (1, 2, 12, 720, 10 ** 40):
                        self.assertNotIn(stair.power(number), rest.normal)
                    continue
                self.assertGreaterEqual(many, 1)
                self.assertIs(many == 1, stair in rest.normal)
                if is_integer(many):
                    self.assertIn(stair.power(many), rest.normal)
                    for prime in (2, 3, 5, 7, 11, 13):
                        if many % prime == 0:
                            self.assertNotIn(stair.power(many // prime), rest.normal)
                if many < 200:
                    self.assertFalse(any(stair.power(number) in rest.normal for number in range(1, many)))
        self.assertGreater(min(found.values()), 30)

    def test_10_6_sizes(self):
        for source, rest in samples(4):
            lot, normal = rest.lot, rest.normal
            self.assertEqual(rest.size, normal.index_in(lot))
            if list(lot.leads) != list(normal.leads):
                self.assertIsNone(rest.size)
            else:
                self.assertEqual(rest.size, math.prod(normal.leads[place] // lead for place, lead in lot.leads.items()))
                stair = some_member(source, lot)
                if is_integer(rest.size):
                    self.assertIn(stair.power(rest.size), normal)

    def test_members_of_all_classes(self):
        for source, rest in small_rests(5, 200):
            members = list(rest.members())
            numbers = [stair.numbers for stair in members]
            self.assertEqual(numbers, sorted(set(numbers)))
            self.assertEqual(len(members), rest.size)
            self.assertTrue(all(rest.least(stair) == stair and stair in rest.lot for stair in members))
            known = set(numbers)
            for _ in range(10):
                self.assertIn(rest.least(some_member(source, rest.lot)).numbers, known)

    def test_members_at_the_limit(self):
        one = Stair.single((2,), (0, 0, 1), 1)
        every = Lot.every((2,))
        members = list(Rest(every, Lot((2,), (one.power(5000),))).members())
        self.assertEqual([stair.numbers for stair in members], [(number,) for number in range(5000)])
        for rest in (Rest(every, Lot((2,), (one.power(5001),))), Rest(every, Lot((2,), ())),
                     Rest(ALL3, Lot((3,), (C,))), Rest(Lot.every((6, 2)), Lot((6, 2), ()))):
            found = rest.members()
            self.assertIs(iter(found), found)
            with self.assertRaises(TooMany) as caught:
                next(found)
            self.assertEqual(caught.exception.most, 5000)
        rest = Rest(ALL3, Lot((3,), (A.power(5), B.power(20), C.power(5))))
        self.assertEqual(len(list(rest.members())), 500)
        self.assertEqual([stair.numbers for stair in Rest(ALL3, ALL3).members()], [(0, 0, 0)])


class KindTest(unittest.TestCase):
    def test_known_kinds(self):
        for shape in SHAPES:
            every, none = Lot.every(shape), Lot(shape, ())
            blocks = sum(size - 1 for size in shape)
            self.assertEqual(Rest(every, none).kind, (0,) * blocks)
            self.assertEqual((Rest(every, every).kind, Rest(none, none).kind), ((), ()))
            self.assertEqual((Rest(every, every).size, Rest(none, none).size), (1, 1))
        self.assertEqual(Rest(ALL3, TWOS).kind, (2, 2))
        for powers, kind in (((4, 6), (2, 12)), ((2, 3), (6,)), ((5, 1), (5,)), ((9, 3), (3, 9))):
            one, other = Stair.read("1; 0"), Stair.read("0; 1")
            rest = Rest(Lot.every((2, 2)), Lot((2, 2), (one.power(powers[0]), other.power(powers[1]))))
            self.assertEqual((rest.kind, rest.size), (kind, powers[0] * powers[1]))
        rest = Rest(Lot.every((2, 2)), Lot((2, 2), (Stair.read("2; 4"),)))
        self.assertEqual((rest.kind, rest.size), ((2, 0), None))

    def test_10_4_by_the_orders(self):
        # In what is left by all brackets as well, the members with each order are as many as the kind tells.
        for source, rest in small_rests(6):
            inner = rest.normal | lot_of_brackets(rest.lot, rest.lot)
            left = Rest(rest.lot, inner)
            self.assertEqual(left.kind, rest.kind)
            self.assertEqual(left.size, math.prod(rest.kind))
            orders = sorted(left.order(stair) for stair in left.members())
            wanted = sorted(math.lcm(*[number // math.gcd(number, digit) for number, digit in zip(rest.kind, digits)])
                            for digits in itertools.product(*[range(number) for number in rest.kind]))
            self.assertEqual(orders, wanted)

    def test_10_4_form(self):
        for source, rest in samples(7):
            kind = rest.kind
            self.assertIsInstance(kind, tuple)
            self.assertTrue(all(number == 0 or number >= 2 for number in kind))
            for one, other in zip(kind, kind[1:]):
                self.assertTrue(other % one == 0 if one else other == 0)
            inner = rest.normal | lot_of_brackets(rest.lot, rest.lot)
            index = inner.index_in(rest.lot)
            self.assertEqual(index, None if 0 in kind else math.prod(kind))
            self.assertEqual(len(rest.lot) - len(inner), kind.count(0))

    def test_10_6_without_brackets(self):
        for source, rest in small_rests(8):
            if lot_of_brackets(rest.lot, rest.lot).is_within(rest.normal):
                self.assertEqual(rest.size, math.prod(rest.kind))
                x, y = some_member(source, rest.lot), some_member(source, rest.lot)
                self.assertIs(rest.are_alike(x, y), rest.is_same(x, y))


class AlikeTest(unittest.TestCase):
    def test_10_5_just_one_of_both(self):
        found = {"led": 0, "barred": 0}
        for source, rest in samples(9):
            lot, normal = rest.lot, rest.normal
            for kind in range(3):
                x, mover = some_member(source, lot), some_member(source, lot)
                y = mover * x * some_member(source, normal) * ~mover
                if kind:
                    y = y * source.choice((Stair.one(lot.shape),) + lot.chain).power(kind)
                paper = rest.alike_paper(x, y)
                found[paper[0]] += 1
                self.assertEqual(len(paper), 2)
                self.assertIs(rest.is_alike_paper(x, y, paper), True)
                self.assertIs(rest.are_alike(x, y), paper[0] == "led")
                self.assertIs(rest.are_alike(y, x), paper[0] == "led")
                self.assertEqual(paper, rest.alike_paper(x, y))
                if not kind:
                    self.assertIs(rest.is_alike_paper(x, y, ("led", mover)), True)
                if paper[0] == "led":
                    self.assertIn(paper[1], lot)
                    self.assertIn(~(paper[1] * x) * y * paper[1], normal)
                    self.assertEqual(rest.order(x), rest.order(y))
                else:
                    self.assertIs(rest.is_alike_paper(x, y, ("barred", 7 * paper[1])), True)
        self.assertGreater(min(found.values()), 60)

    def test_10_5_all_members_of_small_rests(self):
        led = 0
        for source, rest in small_rests(10, 40):
            members = list(rest.members())
            for x in members[:6]:
                reached = {rest.least(u * x * ~u).numbers for u in members}
                for y in members:
                    led += y.numbers in reached
                    self.assertIs(rest.are_alike(x, y), y.numbers in reached)
        self.assertGreater(led, 40)

    def test_10_5_moduli_by_all_members(self):
        source = random.Random(11)
        barred = 0
        for shape, modulus in (((2,), 4), ((3,), 2), ((3,), 3), ((2, 3), 2), ((2, 2, 2), 2)) * 6:
            lot = made_up_lot(source, shape, 3, source.randint(1, 2), 0.7)
            normal = closure(lot, Lot(shape, (some_member(source, lot).power(source.randint(1, 2)),)))
            rest = Rest(lot, normal)
            movers, inner = shadow_stairs(lot, modulus), shadow_stairs(normal, modulus)
            for _ in range(3):
                x = some_member(source, lot)
                reached = {rest_of(u * x * k * ~u, modulus) for u in movers for k in inner}
                for _ in range(4):
                    y = some_member(source, lot)
                    wanted = rest_of(y, modulus) not in reached
                    barred += wanted
                    self.assertIs(rest.is_alike_paper(x, y, ("barred", modulus)), wanted)
        self.assertGreater(barred, 20)

    def test_every_right_paper(self):
        rest = Rest(ALL3, Lot((3,), (A.power(2), C.power(2))))
        for many in range(-4, 5):
            for mover in (B.power(many), A * B.power(many) * C):
                self.assertIs(rest.is_alike_paper(A, A * C, ("led", mover)), many % 2 == 1)
        for modulus in (2, 4, 10 ** 3999):
            self.assertIs(rest.is_alike_paper(A, A * B, ("barred", modulus)), True)
            self.assertIs(rest.is_alike_paper(A, A * C, ("barred", modulus)), False)
        self.assertIs(rest.is_alike_paper(A, A * B, ("barred", LARGEST)), True)
        self.assertIs(rest.is_alike_paper(A, B.power(0), ("barred", LARGEST)), False)
        self.assertIs(rest.is_alike_paper(A, A * B, ("barred", 10 ** 4000)), False)

    def test_nothing_else(self):
        rest = Rest(ALL3, Lot((3,), (A.power(2), C.power(2))))
        for value in VALUES + (("led",), ["led", B], ("led", B, B), ("Led", B), (B, "led"), ("led", (B,)), ("barred",),
                               ("led", Stair.one((3, 2))), ("barred", 2, 2), ("barred", B), ("led", 2), {"led": B}):
            self.assertIs(rest.is_alike_paper(A, A * C, value), False, repr(value))
            self.assertIs(rest.is_alike_paper(A, A * B, value), False)
            self.assertIs(rest.is_alike_paper(A, A * C, ("led", value)), isinstance(value, Stair) and value == B)
            self.assertIs(rest.is_alike_paper(A, A * C, ("barred", value)), False)
            self.assertIs(rest.is_alike_paper(A, A * B, ("barred", value)), isinstance(value, int) and value >= 2)
        inner = Rest(EVEN, Lot((3,), (C.power(4),)))
        x = A.power(2)
        self.assertIs(inner.is_alike_paper(x, x, ("led", A)), False)
        self.assertIs(inner.is_alike_paper(x, x, ("led", A.power(2))), True)

    def test_too_many(self):
        huge = long_single((2,), (0, 0, 1), 9000)
        rest = Rest(Lot.every((2,)), Lot((2,), (huge,)))
        x, y = Stair.one((2,)), long_single((2,), (0, 0, 1), 8999)
        with self.assertRaises(TooMany) as caught:
            rest.alike_paper(x, y)
        self.assertEqual(caught.exception.most, 4000)
        self.assertIs(rest.are_alike(x, y), False)
        self.assertEqual(rest.order(y), 2)
        self.assertEqual(rest.order(Stair.single((2,), (0, 0, 1), 3)), 2 ** 9000)
        self.assertIs(rest.is_alike_paper(x, y, ("barred", 2 ** 9000)), True)
        self.assertIs(rest.is_alike_paper(x, y, ("barred", 2 ** 8999)), False)
        self.assertEqual(rest.alike_paper(x, huge)[0], "led")
        near = Rest(Lot.every((2,)), Lot((2,), (long_single((2,), (0, 0, 1), 8192),)))
        paper = near.alike_paper(x, long_single((2,), (0, 0, 1), 8191))
        self.assertEqual(paper[1] % 2 ** 8192, 0)


class FalseStatementTest(unittest.TestCase):
    def test_10_7(self):
        rest = Rest(ALL3, TWOS)
        self.assertEqual((rest.order(A), rest.order(B)), (2, 2))
        self.assertIs(rest.are_alike(A, B), False)
        one, other = Rest(ALL3, Lot((3,), (A.power(2), B, C))), Rest(ALL3, Lot((3,), (A, B.power(2), C)))
        self.assertEqual((one.size, one.kind), (other.size, other.kind))
        self.assertFalse(one == other)

    def test_0_21_powers(self):
        rest = Rest(ALL3, Lot((3,), (C.power(2),)))
        x, y = A, A * B.power(0) * C
        self.assertIs(rest.are_alike(x.power(2), y.power(2)), True)
        inner = Rest(Lot((3,), (A, C)), Lot((3,), (C.power(2),)))
        self.assertIs(inner.are_alike(x.power(2), y.power(2)), True)
        self.assertIs(inner.are_alike(x, y), False)


class ValueTest(unittest.TestCase):
    def test_properties(self):
        lot, normal = Lot((3,), (B, A)), Lot((3,), (C.power(2), C.power(2)))
        rest = Rest(lot, normal)
        self.assertIs(rest.lot, lot)
        self.assertIs(rest.normal, normal)
        for name in ("lot", "normal", "size", "kind"):
            with self.assertRaises(AttributeError):
                setattr(rest, name, None)
        self.assertRaises(TypeError, iter, rest)
        self.assertEqual(str(Rest(Lot.every((6, 2)), Lot((6, 2), ()))), "rest of 16 by 0")

    def test_equality(self):
        rest = Rest(Lot((3,), (B, A)), Lot((3,), (C.power(2), C.power(4))))
        self.assertTrue(rest == Rest(ALL3, Lot((3,), (C.power(-2),))))
        self.assertFalse(rest != Rest(ALL3, Lot((3,), (C.power(-2),))))
        self.assertFalse(rest == Rest(ALL3, Lot((3,), (C,))))
        self.assertFalse(rest == Rest(Lot((3,), (A, C)), Lot((3,), (C.power(2),))))
        self.assertFalse(Rest(Lot((2, 3), ()), Lot((2, 3), ())) == Rest(Lot((3, 2), ()), Lot((3, 2), ())))
        for value in VALUES:
            self.assertFalse(rest == value)
            self.assertTrue(rest != value)

    def test_wrong_lots(self):
        for value in VALUES:
            if not isinstance(value, Lot):
                self.assertRaises(InvalidLot, Rest, value, None)
        for value in wrong_lots((3,)):
            self.assertRaises(InvalidLot, Rest, ALL3, value)
        self.assertRaises(InvalidOperation, Rest, ALL3, Lot((3,), (A,)))
        self.assertRaises(InvalidOperation, Rest, EVEN, ALL3)
        self.assertRaises(InvalidOperation, Rest, EVEN, Lot((3,), (C,)))
        self.assertIs(is_normal(EVEN, Lot((3,), (C.power(2),))), True)

    def test_wrong_members(self):
        rest = Rest(EVEN, Lot((3,), (C.power(4),)))
        for value in VALUES + (C, A * B):
            if isinstance(value, Stair) and value.shape == (3,) and value in EVEN:
                continue
            for call in (rest.least, rest.order, lambda one: rest.is_same(one, None),
                         lambda one: rest.is_same(B, one), lambda one: rest.are_alike(one, None),
                         lambda one: rest.are_alike(B, one), lambda one: rest.alike_paper(one, None),
                         lambda one: rest.alike_paper(B, one), lambda one: rest.is_alike_paper(one, None, None),
                         lambda one: rest.is_alike_paper(B, one, None)):
                self.assertRaises(InvalidStair, call, value)


if __name__ == "__main__":
    unittest.main()
