"""[10.1], [10.7], [11.1] to [11.5] and the functions of normal lots and of lots of brackets."""

import random
import unittest

from stairlots.errors import InvalidLot
from stairlots.lots.lots import Lot
from stairlots.normal.brackets import depth, downward, lot_of_brackets, upward
from stairlots.normal.normals import closure, is_normal
from stairlots.normal.rests import Rest
from stairlots.stair.stairs import Stair
from tests.helper import (A, ALL3, B, C, EVEN, LONGEST, SHAPES, VALUES, made_up_lot, made_up_member, rest_of,
                          sample_lots, shadow_stairs, small_cases, wrong_lots)


def pairs(seed, most=4):
    """Lots and other lots of their shapes, some of them within."""
    source = random.Random(seed)
    for lot in sample_lots(seed, most, 1) + sample_lots(seed + 1, LONGEST, 1, ((2,), (3,), (4,), (2, 3), (6, 2))):
        members = tuple(made_up_member(source, lot, 2) for _ in range(2))
        yield source, lot, Lot(lot.shape, members)
        yield source, lot, Lot(lot.shape, tuple(stair.power(2) for stair in members))
        yield source, lot, made_up_lot(source, lot.shape, most, 1, 0.4)


def is_led(lot, other):
    """Whether makers and what undoes them lead the chain of the other lot into it."""
    return all(one * stair * ~one in other and ~one * stair * one in other for one in lot.makers for stair in other.chain)


class ExampleTest(unittest.TestCase):
    def test_stage_10(self):
        x, z = Stair.read("1 0/0"), Stair.read("0 1/0")
        whole, few = Lot.every((3,)), Lot((3,), (x.power(2), z.power(2)))
        self.assertEqual([is_normal(whole, few), is_normal(whole, Lot((3,), (x,))),
                          closure(whole, Lot((3,), (x.power(4),))).leads], [True, False, {(0, 0, 1): 4, (0, 0, 2): 4}])

    def test_stage_11(self):
        a, b, c = [Stair.read(text) for text in ("1 0 0/0 0/0", "0 0 0/1 0/0", "0 0 0/0 0/1")]
        four = Lot((4,), (a, b, c))
        self.assertEqual(([[len(lot) for lot in row] for row in (downward(four), upward(four))],
                          len(Lot((4,), (a.bracket(b), b.bracket(c), a.bracket(c))))), ([[6, 3, 1, 0], [0, 1, 3, 6]], 2))
        h = Lot((3,), tuple([Stair.read(text) for text in ("1 0/0", "0 0/2", "0 1/0")]))
        self.assertEqual([downward(h)[1].leads, upward(h)[1].leads, depth(h)], [{(0, 0, 2): 2}, {(0, 0, 2): 1}, 2])
        self.assertEqual([Rest(h, downward(h)[1]).kind, Rest(h, upward(h)[1]).kind,
                          lot_of_brackets(h, upward(h)[1]) == downward(h)[2]], [(2, 0, 0), (0, 0), True])


class NormalTest(unittest.TestCase):
    def test_10_1_normal_lots(self):
        found = {True: 0, False: 0}
        for source, lot, other in pairs(1):
            wanted = other.is_within(lot) and is_led(lot, other)
            found[wanted] += 1
            self.assertIs(is_normal(lot, other), wanted)
            self.assertTrue(is_normal(lot, lot) and is_normal(lot, Lot(lot.shape, ())))
            if not other.is_within(lot):
                self.assertIs(is_normal(lot, other), False)
        self.assertGreater(min(found.values()), 30)

    def test_lots_outside_are_not_normal(self):
        self.assertIs(is_normal(EVEN, ALL3), False)
        self.assertIs(is_normal(Lot((3,), ()), Lot((3,), (C,))), False)
        self.assertIs(is_normal(ALL3, Lot((3,), (C,))), True)

    def test_10_1_closures(self):
        for source, lot, other in pairs(2):
            closed = closure(lot, other)
            self.assertEqual(closed.makers, closed.chain)
            self.assertTrue(other.is_within(closed))
            self.assertTrue(is_led(lot, closed))
            self.assertEqual(closure(lot, closed), closed)
            if other.is_within(lot):
                self.assertIs(is_normal(lot, closed), True)
                self.assertTrue(closed.is_within(lot))
            for _ in range(3):
                mover = made_up_member(source, lot, 2)
                for stair in other.makers + closed.chain[:2]:
                    self.assertIn(mover * stair * ~mover, closed)

    def test_10_1_closures_are_the_least_lots(self):
        # All that is added comes of brackets: the joined lot of what is led there, until nothing more comes.
        for source, lot, other in pairs(3):
            found = other
            while True:
                made = [one * stair * ~one for one in lot.makers for stair in found.chain]
                more = found
                for stair in made:
                    if stair not in more:
                        more = more | Lot(lot.shape, (stair,))
                if more == found:
                    break
                found = more
            self.assertEqual(closure(lot, other), found)

    def test_10_1_modulo_small_numbers(self):
        source = random.Random(4)
        for lot, modulus, members in small_cases(5, size=300, moduli=(2, 3, 4)):
            other = made_up_lot(source, lot.shape, 3, 1, 0.6)
            rests = {stair.numbers for stair in shadow_stairs(closure(lot, other), modulus)}
            makers = [one * stair * ~one for one in members for stair in other.makers]
            whole = Lot(lot.shape, ())
            for stair in makers:
                whole = whole | Lot(lot.shape, (stair,))
            self.assertEqual({stair.numbers for stair in shadow_stairs(whole, modulus)}, rests)

    def test_closures_outside(self):
        self.assertEqual(closure(Lot((3,), (A,)), Lot((3,), (B,))).leads, {(0, 1, 2): 1, (0, 0, 2): 1})
        self.assertEqual(closure(Lot((3,), ()), EVEN), EVEN)

    def test_10_7_normal_lots_of_normal_lots(self):
        middle = Lot((3,), (A, C))
        self.assertTrue(is_normal(ALL3, middle) and is_normal(middle, Lot((3,), (A,))))
        self.assertFalse(is_normal(ALL3, Lot((3,), (A,))))

    def test_wrong_values(self):
        for call in (is_normal, closure, lot_of_brackets):
            for value in VALUES:
                if not isinstance(value, Lot):
                    self.assertRaises(InvalidLot, call, value, None)
            for value in wrong_lots((3,)):
                self.assertRaises(InvalidLot, call, EVEN, value)
            self.assertRaises(InvalidLot, call, Lot((2, 3), ()), Lot((3, 2), ()))


class BracketsTest(unittest.TestCase):
    def test_11_1_brackets_of_members(self):
        for source, lot, other in pairs(6):
            found = lot_of_brackets(lot, other)
            self.assertEqual(found, lot_of_brackets(other, lot))
            self.assertEqual(found.makers, found.chain)
            self.assertTrue(is_led(lot, found) and is_led(other, found))
            for _ in range(3):
                x, y = made_up_member(source, lot, 2), made_up_member(source, other, 2)
                self.assertIn(x.bracket(y), found)
            first = Lot(lot.shape, ())
            for x in lot.makers:
                for y in other.makers:
                    first = first | Lot(lot.shape, (x.bracket(y),))
            self.assertEqual(found, closure(lot | other, first))

    def test_11_2_both_rows(self):
        for lot in sample_lots(7, 4, 1) + sample_lots(8, LONGEST, 1, ((3,), (4,), (6, 2), (4, 4))):
            down, up = downward(lot), upward(lot)
            none = Lot(lot.shape, ())
            self.assertEqual((down[0], down[-1], up[0], up[-1]), (lot, none, none, lot))
            self.assertEqual((down[0].makers, up[-1].makers), (lot.chain, lot.chain))
            self.assertEqual(len(down), len(up))
            self.assertEqual(depth(lot), len(down) - 1)
            self.assertLess(depth(lot), max(lot.shape))
            self.assertIsInstance(down, tuple)
            self.assertIsInstance(up, tuple)
            for one, following in zip(down, down[1:]):
                self.assertEqual(following, lot_of_brackets(one, lot))
                self.assertFalse(one == following)
            for one, following in zip(up, up[1:]):
                self.assertFalse(one == following)
                self.assertTrue(all(x.bracket(y) in one for x in following.chain for y in lot.makers))

    def test_11_2_all_members_of_the_upward_row(self):
        for source, lot, other in pairs(9):
            up = upward(lot)
            for _ in range(2):
                x = made_up_member(source, source.choice(up), 1) * source.choice((Stair.one(lot.shape), lot.member(
                    tuple(source.randint(-1, 1) for _ in lot.chain))))
                for one, following in zip(up, up[1:]):
                    self.assertIs(x in following, x in lot and all(x.bracket(y) in one for y in lot.makers))

    def test_11_2_depths(self):
        for shape in SHAPES:
            self.assertEqual(depth(Lot.every(shape)), max(shape) - 1)
            self.assertEqual(depth(Lot(shape, ())), 0)
            self.assertEqual((downward(Lot(shape, ())), upward(Lot(shape, ()))), ((Lot(shape, ()),),) * 2)
            self.assertEqual(depth(Lot(shape, Lot.every(shape).chain[:1])), 1)
        self.assertEqual(depth(Lot((3,), (A, C))), 1)

    def test_11_3_rows(self):
        for lot in sample_lots(10, 4, 1, ((3,), (4,), (5,), (2, 3), (3, 3))):
            down, up = downward(lot), upward(lot)
            last = depth(lot)
            for k in range(last + 1):
                self.assertTrue(is_normal(lot, down[k]) and is_normal(lot, up[k]))
                self.assertTrue(down[k].is_within(up[last - k]))
                for j in range(last + 1):
                    inner = down[k + j + 1] if k + j + 1 <= last else Lot(lot.shape, ())
                    self.assertTrue(lot_of_brackets(down[k], down[j]).is_within(inner))
            for inner, outer in zip(up, up[1:]):
                rest = Rest(outer, inner)
                self.assertTrue(rest.kind and not any(rest.kind))
                for stair in outer.chain:
                    self.assertEqual(rest.order(stair), 1 if stair in inner else None)

    def test_11_4_members_that_make_a_lot(self):
        source = random.Random(11)
        found = {True: 0, False: 0}
        for shape in ((3,), (4,), (2, 3)) * 12:
            lot = made_up_lot(source, shape, 2, source.randint(1, 3), 0.6)
            few = Lot(shape, tuple(made_up_member(source, lot, 1) for _ in range(3)))
            found[few == lot] += 1
            self.assertIs((few | downward(lot)[1 if depth(lot) else 0]) == lot, few == lot or not lot)
        self.assertGreater(min(found.values()), 3)

    def test_11_5_what_is_not_true(self):
        a, b, c = [Stair.read(text) for text in ("1 0 0/0 0/0", "0 0 0/1 0/0", "0 0 0/0 0/1")]
        four = Lot((4,), (a, b, c))
        self.assertFalse(Lot((4,), (a.bracket(b), b.bracket(c), a.bracket(c))) == lot_of_brackets(four, four))
        h = Lot((3,), (A, B.power(2), C))
        self.assertEqual(Rest(h, downward(h)[1]).kind, (2, 0, 0))
        self.assertFalse(downward(h)[1] == upward(h)[1])

    def test_rows_modulo_small_numbers(self):
        # Of finite lots the brackets of all members make the lot of brackets: modulo n each rest is made by them.
        for lot, modulus, members in small_cases(12, size=100, moduli=(2, 3)):
            made = Lot(lot.shape, ())
            for x in members:
                for y in members:
                    if rest_of(x.bracket(y), modulus) not in {stair.numbers for stair in shadow_stairs(made, modulus)}:
                        made = made | Lot(lot.shape, (x.bracket(y),))
            self.assertEqual({stair.numbers for stair in shadow_stairs(lot_of_brackets(lot, lot), modulus)},
                             {stair.numbers for stair in shadow_stairs(made, modulus)})

    def test_wrong_values(self):
        for value in VALUES:
            if not isinstance(value, Lot):
                for call in (downward, upward, depth):
                    self.assertRaises(InvalidLot, call, value)
        self.assertEqual(lot_of_brackets(ALL3, Lot((3,), (B,))).leads, {(0, 0, 2): 1})


if __name__ == "__main__":
    unittest.main()
