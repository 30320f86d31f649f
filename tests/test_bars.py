"""[0.15], [0.21], [5.5], [5.6] and the functions of bars."""

import math
import random
import unittest

from stairlots.base.shapes import places
from stairlots.errors import InvalidLot, InvalidStair, TooMany
from stairlots.lots.lots import Lot
from stairlots.shadow.bars import bar, is_bar
from stairlots.shadow.shadows import Shadow
from stairlots.stair.stairs import Stair
from tests.helper import (A, ALL3, C, EVEN, LONGEST, NUMBERS, OTHERS, SHAPES, SLANT, T, U, VALUES, long_single,
                          made_up_member, rest_of, sample_lots, sample_stair, small_cases, wrong_members)
from tests.test_shadows import first_number

PLACE = (0, 0, 1)
LARGEST = 10 ** 4000 - 1


def prime_powers(number):
    """The greatest powers of primes that divide an integer."""
    found = []
    for prime in range(2, 100):
        power = 1
        while number % prime == 0:
            number, power = number // prime, power * prime
        if power > 1:
            found.append(power)
    return found


class ExampleTest(unittest.TestCase):
    def test_document(self):
        self.assertEqual(([is_bar(SLANT, U, value) for value in (3, 4, 8, 24, 2 ** 100, True)],
                          is_bar(SLANT, U, bar(SLANT, U)), bar(SLANT, T)),
                         ([True, False, True, True, True, False], True, None))
        two = Lot((2,), (Stair.single((2,), PLACE, 4),))
        self.assertEqual([is_bar(two, Stair.single((2,), PLACE, 2), value) for value in (2, 3, 5, 4)],
                         [False, False, False, True])


class JudgingTest(unittest.TestCase):
    def test_5_5_by_all_rests(self):
        source = random.Random(1)
        barred = 0
        for lot, modulus, members in small_cases(2):
            rests = {stair.numbers for stair in members}
            for _ in range(12):
                stair = sample_stair(source, lot, 9)
                wanted = rest_of(stair, modulus) not in rests
                barred += wanted
                self.assertIs(is_bar(lot, stair, modulus), wanted)
                self.assertIs(is_bar(lot, stair, modulus), stair not in Shadow(lot, modulus))
        self.assertGreater(barred, 100)

    def test_each_modulus_as_the_shadow(self):
        source = random.Random(3)
        for lot in sample_lots(4, 6, 1):
            stair = sample_stair(source, lot, 6)
            for value in (2, 3, 6, 16, 10 ** 30, 10 ** 60 + 1, 6 ** 500):
                self.assertIs(is_bar(lot, stair, value), stair not in Shadow(lot, value))

    def test_5_5_members_are_never_barred(self):
        source = random.Random(5)
        for lot in sample_lots(6, 9, 1) + sample_lots(7, LONGEST, 1, ((3,), (4,), (2, 3), (6, 2))):
            for stair in (made_up_member(source, lot), Stair.one(lot.shape)) + lot.chain:
                self.assertIsNone(bar(lot, stair))
                self.assertIs(is_bar(lot, stair, source.choice((2, 7, 12, 10 ** 59, LARGEST))), False)

    def test_5_5_multiples_and_prime_powers(self):
        source = random.Random(8)
        for lot in sample_lots(9, 5, 1):
            stair = sample_stair(source, lot, 5)
            for value in (12, 30, 72, 2 ** 20 * 3 ** 20):
                if is_bar(lot, stair, value):
                    self.assertTrue(all(is_bar(lot, stair, value * times) for times in (2, 3, 5, 10 ** 40)))
                    self.assertTrue(any(is_bar(lot, stair, power) for power in prime_powers(value)))

    def test_values_that_are_no_moduli(self):
        self.assertIs(is_bar(SLANT, U, LARGEST), True)
        self.assertIs(is_bar(SLANT, U, 3 * 10 ** 3999), True)
        for value in (10 ** 4000, 3 * 10 ** 4000, 2 ** 20000, 10 ** 5000, 1, 0, -3, -8, -(3 * 10 ** 4000)):
            self.assertIs(is_bar(SLANT, U, value), False)
        for value in OTHERS:
            self.assertIs(is_bar(SLANT, U, value), False)
        for value in NUMBERS:
            self.assertIs(is_bar(ALL3, A, value), False)
            self.assertIs(is_bar(Lot((3,), ()), A, value), value >= 2)

    def test_0_21_no_prime_need_bar(self):
        two = Lot((2,), (Stair.single((2,), PLACE, 4),))
        stair = Stair.single((2,), PLACE, 2)
        self.assertEqual([is_bar(two, stair, value) for value in (2, 3, 5, 7, 11, 13, 4, 12)], [False] * 6 + [True] * 2)

    def test_wrong_values(self):
        for call in (bar, lambda lot, stair: is_bar(lot, stair, None)):
            for value in VALUES:
                if not isinstance(value, Lot):
                    self.assertRaises(InvalidLot, call, value, None)
            for value in wrong_members((3,)):
                self.assertRaises(InvalidStair, call, EVEN, value)
            self.assertRaises(InvalidStair, call, Lot((2, 3), ()), Stair.one((3, 2)))


class FindingTest(unittest.TestCase):
    def test_0_15_just_one_of_both(self):
        source = random.Random(10)
        found = 0
        for lot in sample_lots(11, 6, 2) + sample_lots(12, LONGEST, 1, ((3,), (4,), (2, 3), (2, 2, 2), (6, 2))):
            for _ in range(3):
                stair = sample_stair(source, lot, 6)
                number = bar(lot, stair)
                if stair in lot:
                    self.assertIsNone(number)
                    continue
                found += 1
                self.assertIs(is_bar(lot, stair, number), True)
                self.assertEqual(number, bar(lot, stair))
        self.assertGreater(found, 150)

    def test_5_6_one_of_the_powers_bars(self):
        source = random.Random(13)
        for lot in sample_lots(14, 5, 1):
            stair = sample_stair(source, lot, 5)
            if stair in lot:
                continue
            power = first_number(lot, stair)
            while not is_bar(lot, stair, power):
                power = power * power
                self.assertLess(power, 10 ** 4000)
            self.assertIs(is_bar(lot, stair, bar(lot, stair)), True)

    def test_5_6_it_need_not_be_the_first_one(self):
        # The number that is looked at first is 2, but 2 ** 8 does not bar it yet.
        lot, stair = Lot((2,), (Stair.single((2,), PLACE, 2 ** 9),)), Stair.single((2,), PLACE, 2 ** 8)
        self.assertEqual([is_bar(lot, stair, 2 ** many) for many in (1, 2, 4, 8, 9, 16)], [False] * 4 + [True] * 2)
        self.assertIs(is_bar(lot, stair, bar(lot, stair)), True)

    def test_places_without_a_lead(self):
        for shape in SHAPES:
            for place in places(shape):
                stair = Stair.single(shape, place, 2 ** 50)
                number = bar(Lot(shape, ()), stair)
                self.assertNotEqual(2 ** 50 % number, 0)
                self.assertIs(is_bar(Lot(shape, ()), stair, number), True)
        self.assertIs(is_bar(Lot((3,), (A,)), C, 2), True)

    def test_longest_moduli(self):
        # Only 2 ** 8192 of the powers of powers of 2 is long enough here, and 2 ** 16384 has more than 4000 digits.
        lot = Lot((2,), (long_single((2,), PLACE, 8192),))
        stair = long_single((2,), PLACE, 8191)
        number = bar(lot, stair)
        self.assertIs(is_bar(lot, stair, number), True)
        self.assertEqual(number % 2 ** 8192, 0)
        self.assertIs(is_bar(lot, stair, 2 ** 8191), False)

    def test_too_long_moduli(self):
        for shape in ((2,), (3, 2), (6, 2)):
            for bits in (8193, 9000):
                lot, stair = Lot(shape, (long_single(shape, PLACE, bits),)), long_single(shape, PLACE, bits - 1)
                for some in (lot, Lot(shape, ())):
                    if some or bits == 9000:
                        with self.assertRaises(TooMany) as caught:
                            bar(some, stair)
                        self.assertEqual(caught.exception.most, 4000)
                self.assertIs(is_bar(lot, stair, 2 ** bits), True)
                self.assertIs(is_bar(lot, stair, 2 ** (bits - 1)), False)
                self.assertIsNone(bar(lot, stair.power(2)))
        self.assertEqual(bar(Lot((2,), ()), long_single((2,), PLACE, 8191)), 2 ** 8192)

    def test_what_is_lacking_decides(self):
        # The lead number has many digits, but what it is to be divided by is small; and the other way round.
        lead = 3 ** 100
        lot = Lot((3,), (A.power(lead), C.power(7)))
        for stair in (A.power(3 ** 99), A, A.power(lead) * C, A.power(5 * lead) * C.power(3)):
            number = bar(lot, stair)
            self.assertIs(is_bar(lot, stair, number), True)
            self.assertEqual(math.gcd(number, lead * 7) > 1, True)


if __name__ == "__main__":
    unittest.main()
