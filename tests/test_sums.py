"""[6.1] to [6.6], [0.21] and the functions of sums."""

import math
import random
import unittest

from stairlots.base.wholes import is_integer
from stairlots.errors import InvalidLot, InvalidNumber, InvalidOperation, InvalidStair, Refused
from stairlots.lots.lots import Lot
from stairlots.lots.sums import is_sum, kernel, step, sum_at, sums
from stairlots.stair.stairs import Stair
from tests.helper import (A, ALL3, B, C, EVEN, LONGEST, SHAPES, TOO_LONG, VALUES, made_up_lot, made_up_member,
                          sample_lots, wrong_members)

HALF = Lot((3,), (A.power(2), B, C))
MODULI = (2, 3, 4, 6, 12, 35)


def told_words(source, lot, values, most=3):
    """A product of makers, and the sum of the values of the factors."""
    stair, told = Stair.one(lot.shape), 0
    for _ in range(5):
        if lot.makers:
            at, many = source.randrange(len(lot.makers)), source.randint(-most, most)
            stair, told = stair * lot.makers[at].power(many), told + many * values[at]
    return stair, told


def values_of_a_sum(source, lot, most=9):
    """The values of some sum of integers on a lot."""
    found = [0] * len(lot.makers)
    for one in sums(lot):
        many = source.randint(-most, most)
        found = [a + many * b for a, b in zip(found, one)]
    return tuple(found)


def samples(seed, most=5):
    """Lots with the values of sums, and a modulus, 0 among these."""
    source = random.Random(seed)
    for lot in sample_lots(seed, most, 1):
        for modulus in (0, source.choice(MODULI), 10 ** 50):
            yield source, lot, values_of_a_sum(source, lot), modulus


def in_steps(tuples, wanted):
    """Whether a tuple is a sum of multiples of tuples with their first numbers at unlike indices."""
    left = list(wanted)
    for one in tuples:
        at = [index for index, number in enumerate(one) if number][0]
        if left[at] % one[at] or any(left[:at]):
            return False
        many = left[at] // one[at]
        left = [a - many * b for a, b in zip(left, one)]
    return not any(left)


class ExampleTest(unittest.TestCase):
    def test_document(self):
        self.assertEqual([is_sum(ALL3, (3, 5)), is_sum(HALF, (0, 0, 1)), is_sum(HALF, (0, 0, 1), modulus=2),
                          is_sum(HALF, (0, 0, 1), modulus=4)], [True, False, True, False])
        self.assertEqual([sum_at(ALL3, (3, 5), A * A * ~B), step(ALL3, (4, 6)), step(ALL3, (4, 6), modulus=7),
                          step(ALL3, (4, 6), modulus=8)], [1, 2, 1, 2])
        self.assertEqual([kernel(ALL3, (1, 1)).leads, kernel(ALL3, (0, 1), modulus=3).leads, C in kernel(ALL3, (0, 1))],
                         [{(0, 0, 1): 1, (0, 0, 2): 1}, {(0, 0, 1): 1, (0, 1, 2): 3, (0, 0, 2): 1}, True])
        two = Lot((2,), (Stair.single((2,), (0, 0, 1), 4), Stair.single((2,), (0, 0, 1), 6)))
        self.assertEqual([sums(ALL3), sums(HALF), sums(two)], [((1, 0), (0, 1)), ((1, 0, 0), (0, 1, 0)), ((2, 3),)])


class SumTest(unittest.TestCase):
    def test_6_1_products_have_the_sums(self):
        for source, lot, values, modulus in samples(1):
            self.assertIs(is_sum(lot, values, modulus=modulus), True)
            for _ in range(4):
                stair, told = told_words(source, lot, values)
                self.assertEqual(sum_at(lot, values, stair, modulus=modulus), told % modulus if modulus else told)

    def test_6_1_values_stand_for_their_remainders(self):
        for source, lot, values, modulus in samples(2):
            if modulus:
                other = tuple(number + source.randint(-3, 3) * modulus for number in values)
                self.assertIs(is_sum(lot, other, modulus=modulus), True)
                self.assertEqual(kernel(lot, other, modulus=modulus), kernel(lot, values, modulus=modulus))
                for maker in lot.makers:
                    self.assertEqual(sum_at(lot, other, maker, modulus=modulus), sum_at(lot, values, maker, modulus=modulus))
                    self.assertIn(sum_at(lot, other, maker, modulus=modulus), range(modulus))

    def test_6_2_products_that_are_one(self):
        # Values modulo d are those of a sum exactly if no product of the makers that is 1 has another value: the makers
        # stand beside their values, which are added in a block of two rows.
        refused = 0
        source = random.Random(3)
        for shape, modulus in (((2,), 4), ((3,), 2), ((3,), 3), ((2, 2), 4), ((2, 3), 2)):
            for _ in range(25):
                lot = made_up_lot(source, shape, 3, source.randint(1, 3), 0.7)
                values = tuple(source.randint(-2, 2) for _ in lot.makers)
                self.assertEqual(is_sum(lot, values, modulus=modulus), self.by_search(lot, values, modulus))
                refused += not is_sum(lot, values, modulus=modulus)
        self.assertGreater(refused, 20)

    def by_search(self, lot, values, modulus):
        """Whether no member has two values: the makers with their values make stairs of one more block."""
        shape, place = lot.shape + (2,), (len(lot.shape), 0, 1)
        makers = tuple(maker.beside(Stair.single((2,), (0, 0, 1), value)) for maker, value in zip(lot.makers, values))
        whole = Lot(shape, makers + (Stair.single(shape, place, modulus),))
        return not any(Stair.single(shape, place, number) in whole for number in range(1, modulus))

    def test_6_2_brackets_have_the_value_0(self):
        for source, lot, values, modulus in samples(4):
            x, y = made_up_member(source, lot, 2), made_up_member(source, lot, 2)
            self.assertEqual(sum_at(lot, values, x.bracket(y), modulus=modulus), 0)

    def test_6_2_sums_are_so_modulo_each_number(self):
        source = random.Random(5)
        found = {True: 0, False: 0}
        for lot in sample_lots(6, 3, 1):
            values = tuple(source.randint(-4, 4) for _ in lot.makers)
            whole = is_sum(lot, values)
            found[whole] += 1
            each = [is_sum(lot, values, modulus=modulus) for modulus in MODULI + (10 ** 30, 10 ** 59 + 1)]
            if whole:
                self.assertTrue(all(each))
            else:
                self.assertFalse(all(each))
            self.assertEqual(whole, in_steps(sums(lot), values))
        self.assertGreater(min(found.values()), 8)

    def test_values_of_any_length(self):
        self.assertIs(is_sum(ALL3, (10 ** 3000, -10 ** 500)), True)
        self.assertIs(is_sum(HALF, (1, 2, 10 ** 3000)), False)
        self.assertIs(is_sum(HALF, (1, 2, 10 ** 3000), modulus=2), True)
        self.assertIs(is_sum(HALF, (1, 2, 10 ** 3000 + 1), modulus=2), True)
        self.assertIs(is_sum(HALF, (1, 2, 10 ** 3000 + 1), modulus=3), False)

    def test_lots_without_makers_and_with_ones(self):
        for shape in SHAPES:
            lot, ones = Lot(shape, ()), Lot(shape, (Stair.one(shape),) * 2)
            for modulus in (0, 2, LONGEST):
                self.assertIs(is_sum(lot, (), modulus=modulus), True)
                self.assertEqual(sum_at(lot, (), Stair.one(shape), modulus=modulus), 0)
                self.assertEqual((step(lot, (), modulus=modulus), kernel(lot, (), modulus=modulus)), (0, lot))
                self.assertIs(is_sum(ones, (0, modulus), modulus=modulus), True)
                self.assertIs(is_sum(ones, (0, 1), modulus=modulus), False)
            self.assertEqual((sums(lot), sums(ones)), ((), ()))

    def test_lots_that_are_results(self):
        every = Lot.every((6, 2))
        self.assertEqual(len(sums(every)), 6)
        values = tuple(int(one.lead[2] - one.lead[1] == 1) for one in every.makers)
        self.assertIs(is_sum(every, values), True)
        self.assertIs(is_sum(every, values[:15] + (1,)), False)
        self.assertEqual(len(kernel(every, values)), 15)
        self.assertEqual(kernel(every, values).makers, kernel(every, values).chain)


class StepTest(unittest.TestCase):
    def test_6_3_values_are_the_multiples_of_the_step(self):
        for source, lot, values, modulus in samples(7):
            number = step(lot, values, modulus=modulus)
            self.assertEqual(number, math.gcd(*values, modulus) % modulus if modulus else math.gcd(*values))
            for _ in range(3):
                stair, told = told_words(source, lot, values)
                told = told % modulus if modulus else told
                self.assertEqual(told % number if number else told, 0)
            if number:
                self.assertEqual(modulus % number, 0)

    def test_6_4_kernels(self):
        for source, lot, values, modulus in samples(8):
            part = kernel(lot, values, modulus=modulus)
            number = step(lot, values, modulus=modulus)
            self.assertTrue(part.is_within(lot))
            for stair in part.chain:
                self.assertEqual(sum_at(lot, values, stair, modulus=modulus), 0)
            for _ in range(4):
                stair, _ = told_words(source, lot, values)
                self.assertIs(stair in part, sum_at(lot, values, stair, modulus=modulus) == 0)
            if modulus or number == 0:
                self.assertEqual(part.index_in(lot), modulus // number if number else 1)
                self.assertEqual(list(part.leads), list(lot.leads))
            else:
                self.assertEqual(len(part), len(lot) - 1)
            self.assertTrue(all(lead % lot.leads[place] == 0 for place, lead in part.leads.items()))
            if len(part) <= 6:
                self.assertEqual(Lot(lot.shape, part.chain).chain, part.chain)

    def test_6_4_all_members_with_the_value_0(self):
        # Each member is a power of one with the step as its value, and a member of the kernel.
        for source, lot, values, modulus in samples(9):
            number = step(lot, values, modulus=modulus)
            if number == 0:
                self.assertEqual(kernel(lot, values, modulus=modulus), lot)
                continue
            part = kernel(lot, values, modulus=modulus)
            for maker in lot.makers:
                joined = part | Lot(lot.shape, (maker,))
                worth = sum_at(lot, values, maker, modulus=modulus)
                many = math.gcd(worth, modulus) if modulus else worth
                wanted = (modulus // many if worth else 1) if modulus else (None if worth else 1)
                self.assertEqual(part.index_in(joined), wanted)

    def test_6_4_powers_of_the_makers_are_not_enough(self):
        part = kernel(ALL3, (0, 1))
        self.assertEqual(part.leads, {(0, 0, 1): 1, (0, 0, 2): 1})
        self.assertNotIn(C, Lot((3,), (A,)))
        self.assertIn(C, part)

    def test_0_21_the_kernel_is_not_the_lot_of_the_other_makers(self):
        self.assertFalse(kernel(ALL3, (0, 1)) == Lot((3,), (A,)))


class BaseTest(unittest.TestCase):
    def test_6_5_least_bases(self):
        source = random.Random(10)
        for lot in sample_lots(11, 4, 2) + sample_lots(12, LONGEST, 1, ((2,), (3,), (4,), (2, 3), (2, 2, 2))):
            base = sums(lot)
            self.assertIsInstance(base, tuple)
            ahead = -1
            for index, one in enumerate(base):
                self.assertEqual(len(one), len(lot.makers))
                at = [place for place, number in enumerate(one) if number][0]
                self.assertGreater(one[at], 0)
                self.assertGreater(at, ahead)
                ahead = at
                self.assertTrue(all(0 <= other[at] < one[at] for other in base[:index]))
                self.assertIs(is_sum(lot, one), True)
            for _ in range(4):
                values = tuple(source.randint(-3, 3) for _ in lot.makers)
                self.assertIs(is_sum(lot, values), in_steps(base, values))

    def test_6_5_no_sum_is_missing(self):
        for lot in (ALL3, HALF, EVEN, Lot((3,), (A, B, A * B)), Lot((2,), (Stair.read("4"), Stair.read("6"))),
                    Lot((3,), (A.power(2), A.power(3))), Lot((3,), (A * C, A))):
            numbers = range(-4, 5)
            for values in [(a, b) for a in numbers for b in numbers]:
                values = values + (1,) * (len(lot.makers) - 2)
                self.assertIs(is_sum(lot, values), in_steps(sums(lot), values))

    def test_6_6_members_with_the_value_0_in_all_sums(self):
        for lot in sample_lots(13, 3, 1, ((3,), (4,), (2, 3), (3, 3), (5,))):
            makers = lot.makers
            brackets = Lot(lot.shape, ())
            for x in lot.chain:
                for y in lot.chain:
                    brackets = brackets | Lot(lot.shape, (x.bracket(y),))
            for stair in lot.chain + makers:
                zero = all(sum_at(lot, one, stair) == 0 for one in sums(lot) if all(is_integer(value) for value in one))
                if all(is_integer(value) for one in sums(lot) for value in one):
                    some = (Lot(lot.shape, (stair,)) & brackets)
                    self.assertIs(zero, bool(some) or not stair)

    def test_6_5_results_of_sixty_digits(self):
        lot = Lot((2,), (Stair.single((2,), (0, 0, 1), LONGEST), Stair.single((2,), (0, 0, 1), LONGEST - 1)))
        self.assertEqual(sums(lot), ((LONGEST, LONGEST - 1),))
        self.assertEqual(sum_at(lot, (LONGEST, LONGEST - 1), Stair.single((2,), (0, 0, 1), -7)), -7)
        values = (LONGEST, -LONGEST)
        self.assertEqual(sum_at(ALL3, values, A.power(LONGEST) * B.power(LONGEST) * A), LONGEST)
        self.assertEqual(step(ALL3, values), LONGEST)
        self.assertEqual(kernel(ALL3, (LONGEST, 1)).leads, {(0, 0, 1): 1, (0, 0, 2): 1})


class WrongTest(unittest.TestCase):
    calls = (lambda lot, values, stair, modulus: sum_at(lot, values, stair, modulus=modulus),
             lambda lot, values, stair, modulus: step(lot, values, modulus=modulus),
             lambda lot, values, stair, modulus: kernel(lot, values, modulus=modulus))

    def test_lots(self):
        for value in VALUES:
            if not isinstance(value, Lot):
                for call in self.calls:
                    self.assertRaises(InvalidLot, call, value, None, None, None)
                self.assertRaises(InvalidLot, is_sum, value, None, modulus=None)
                self.assertRaises(InvalidLot, sums, value)

    def test_values(self):
        wrong = VALUES + ((1,), (1, 2, 3), [1, 2], (1, True), (1, TOO_LONG), (None, 1), (1, "2"), {0: 1, 1: 2}, ((1, 2),))
        for value in wrong:
            if value not in ((3, 2), (6, 3)):
                for call in self.calls:
                    self.assertRaises(InvalidOperation, call, ALL3, value, None, None)
                if not isinstance(value, tuple) or value[1:] != (TOO_LONG,):
                    self.assertIs(is_sum(ALL3, value), False)
                    self.assertIs(is_sum(ALL3, value, modulus=2), False)
        self.assertIs(is_sum(Lot((3,), ()), ()), True)
        self.assertIs(is_sum(Lot((3,), ()), (0,)), False)
        self.assertIs(is_sum(ALL3, (True, 0)), False)

    def test_stairs(self):
        for value in wrong_members((3,)):
            self.assertRaises(InvalidStair, sum_at, ALL3, (1, 2), value, modulus=None)

    def test_moduli(self):
        for value in VALUES:
            if is_integer(value) and (value == 0 or value >= 2):
                self.assertIs(is_sum(ALL3, (1, 2), modulus=value), True)
                continue
            for call in self.calls + (lambda lot, values, stair, modulus: is_sum(lot, None, modulus=modulus),):
                for values in ((1, 2), (1, 2, 3)):
                    lot = ALL3 if len(values) == 2 else HALF
                    with self.assertRaises(InvalidNumber) as caught:
                        call(lot, values, A.power(2), value)
                    self.assertIs(caught.exception.given, value)

    def test_refused(self):
        for call in self.calls:
            for modulus in (0, 3, 4):
                with self.assertRaises(Refused) as caught:
                    call(HALF, (0, 0, 1), A, modulus)
                self.assertEqual(caught.exception.reason, ("bracket",))
        for modulus in (0, 2):
            with self.assertRaises(Refused) as caught:
                sum_at(HALF, (1, 2, 0), A, modulus=modulus)
            self.assertEqual(caught.exception.reason, ("outside",))
        self.assertRaises(Refused, sum_at, Lot((3,), ()), (), A)
        self.assertEqual(sum_at(HALF, (1, 2, 1), C, modulus=2), 1)


if __name__ == "__main__":
    unittest.main()
