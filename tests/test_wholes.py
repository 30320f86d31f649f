"""[0.1], [0.5], [1.3] and the functions of integers."""

import math
import unittest

from stairlots.base import wholes
from stairlots.base.wholes import choose, common_divisor, divisors, is_integer
from stairlots.errors import InvalidNumber
from tests.helper import LONGEST, NUMBERS, OTHERS, TOO_LONG, VALUES


class IntegerTest(unittest.TestCase):
    def test_constant(self):
        self.assertEqual(wholes.MAX_DIGITS, 60)

    def test_sixty_digits_of_both_signs(self):
        for value in (0, 1, -1, LONGEST, -LONGEST):
            self.assertIs(is_integer(value), True)
        for value in (TOO_LONG, -TOO_LONG, 10 ** 99, 10 ** 4500, -(10 ** 4500)):
            self.assertIs(is_integer(value), False)

    def test_what_is_no_integer(self):
        for value in OTHERS:
            self.assertIs(is_integer(value), False, repr(value))


class ChooseTest(unittest.TestCase):
    def test_example(self):
        self.assertEqual([choose(5, 2), choose(-2, 3), choose(3, 5)], [10, -4, 0])

    def test_by_its_definition(self):
        for number in (0, 1, 2, 59, 60, 61, -1, -7, LONGEST, -LONGEST):
            for many in range(61):
                top = math.prod(number - k for k in range(many))
                self.assertEqual(choose(number, many) * math.factorial(many), top)

    def test_1_3_sums(self):
        for a in (-9, -1, 0, 1, 4, 10 ** 30):
            for b in (-8, 0, 3, 10 ** 40):
                for k in (0, 1, 2, 5, 11):
                    self.assertEqual(choose(a + b, k), sum(choose(a, i) * choose(b, k - i) for i in range(k + 1)))

    def test_wrong_numbers(self):
        for value in VALUES:
            if not is_integer(value):
                self.refused(value, value, 2)
                self.refused(value, value, -1)
            if not is_integer(value) or not 0 <= value <= 60:
                self.refused(value, 5, value)
        self.refused(61, 5, 61)
        self.refused(-1, 5, -1)

    def refused(self, given, *arguments):
        with self.assertRaises(InvalidNumber) as caught:
            choose(*arguments)
        self.assertIs(caught.exception.given, given)


class DivisorTest(unittest.TestCase):
    def test_examples(self):
        self.assertEqual(common_divisor(-12, 18), 6)
        self.assertEqual(divisors(12), (1, 2, 3, 4, 6, 12))

    def test_common_divisor(self):
        numbers = (0, 1, -1, 12, -18, 35, LONGEST, -LONGEST, 10 ** 59)
        for one in numbers:
            for other in numbers:
                self.assertEqual(common_divisor(one, other), math.gcd(one, other))
        self.assertEqual(common_divisor(0, 0), 0)

    def test_common_divisor_of_wrong_values(self):
        for value in VALUES:
            if not is_integer(value):
                for arguments in ((value, 1), (1, value), (value, None)):
                    with self.assertRaises(InvalidNumber) as caught:
                        common_divisor(*arguments)
                    self.assertIs(caught.exception.given, value)

    def test_divisors(self):
        for number in list(range(1, 200)) + [10 ** 6, 999999, 999983, 720720, 994009]:
            self.assertEqual(divisors(number), tuple(d for d in range(1, number + 1) if number % d == 0))

    def test_divisors_of_wrong_values(self):
        for value in OTHERS + NUMBERS + (10 ** 6 + 1, -4):
            if value in (1, 2, 3, 6) and type(value) is int:
                continue
            with self.assertRaises(InvalidNumber) as caught:
                divisors(value)
            self.assertIs(caught.exception.given, value)

    def test_power_of_ten(self):
        for many in (0, 1, 49, 50, 51, 130, 4000):
            self.assertEqual(wholes.power_of_ten(many), 10 ** many)

    def test_shared_divisor(self):
        for one in (-12, 0, 5, 18, 10 ** 70):
            for other in (-9, 0, 1, 24, 3 ** 90):
                divisor, a, b = wholes.shared_divisor(one, other)
                self.assertEqual((divisor, a * one + b * other), (math.gcd(one, other),) * 2)


if __name__ == "__main__":
    unittest.main()
