"""[13.1] and the class Polynomial."""

import fractions
import itertools
import math
import random
import unittest

from stairlots.base.ratios import Ratio
from stairlots.books import folds, polynomials
from stairlots.books.polynomials import Polynomial
from stairlots.errors import InvalidOperation, InvalidPolynomial, TooMany
from tests.helper import LONGEST, TOO_LONG, VALUES


def made_up(source, variables, many, most=3, long=9):
    """A polynomial with about so many terms."""
    return Polynomial(variables, {
        tuple(source.randint(0, most) for _ in range(variables)): Ratio(source.randint(-long, long), source.randint(1, long))
        for _ in range(many)})


def fraction(ratio):
    """The ratio as a value of Python's own."""
    return fractions.Fraction(ratio.top, ratio.bottom)


def plain(polynomial):
    """The terms, with values of Python's own."""
    return {exponents: fraction(ratio) for exponents, ratio in polynomial.terms.items()}


def value(polynomial, numbers):
    """[13.1], word by word."""
    return sum((fraction(ratio) * math.prod(number ** exponent for number, exponent in zip(numbers, exponents))
                for exponents, ratio in polynomial.terms.items()), fractions.Fraction(0))


def product(one, other):
    """The terms of a product, with values of Python's own."""
    found = {}
    for (a, x), (b, y) in itertools.product(plain(one).items(), plain(other).items()):
        at = tuple(i + j for i, j in zip(a, b))
        found[at] = found.get(at, 0) + x * y
    return {at: number for at, number in found.items() if number}


def samples(seed):
    """Pairs of polynomials in as many variables."""
    source = random.Random(seed)
    for variables in range(13):
        for many in (0, 1, 3, 12):
            for long in (1, 9, LONGEST):
                yield source, made_up(source, variables, many, 3, long), made_up(source, variables, 5, 2, long)


class ConstructionTest(unittest.TestCase):
    def test_constants(self):
        self.assertEqual((polynomials.MAX_VARIABLES, polynomials.MAX_TERMS, polynomials.MAX_EXPONENT), (12, 5000, 60))

    def test_terms(self):
        terms = {(2, 1): Ratio(-1, 2), (0, 0): Ratio(4), (0, 60): Ratio(1), (1, 1): Ratio(0), (0, 7): Ratio(0, 3)}
        one = Polynomial(2, terms)
        self.assertEqual(one.variables, 2)
        self.assertEqual(list(one.terms), [(0, 0), (0, 60), (2, 1)])
        self.assertEqual([str(ratio) for ratio in one.terms.values()], ["4", "1", "-1/2"])
        terms[(5, 5)] = Ratio(1)
        one.terms[(6, 6)] = Ratio(1)
        self.assertEqual(len(one), 3)
        self.assertEqual(len(one.terms), 3)
        for name in ("variables", "terms"):
            with self.assertRaises(AttributeError):
                setattr(one, name, None)
        self.assertRaises(TypeError, iter, one)

    def test_no_variables_and_no_terms(self):
        for variables in range(13):
            none = Polynomial(variables, {})
            self.assertEqual((none.terms, len(none), bool(none), str(none)), ({}, 0, False, "0"))
            self.assertEqual(none.value_at((7,) * variables), Ratio(0))
            self.assertEqual(none, Polynomial(variables, {(0,) * variables: Ratio(0)}))
        five = Polynomial(0, {(): Ratio(5)})
        self.assertEqual((five.terms, five.value_at(()), str(five * five + five)), ({(): Ratio(5)}, Ratio(5), "30"))

    def test_edges(self):
        keys = list(itertools.islice(itertools.product(range(61), repeat=2), 5001))[:3721]
        keys = [key + (0,) for key in keys] + [key + (1,) for key in keys]
        full = {key: Ratio(1) for key in keys[:5000]}
        self.assertEqual(len(Polynomial(3, full)), 5000)
        self.assertEqual(list(Polynomial(3, full).terms), sorted(full))
        self.assertRaises(InvalidPolynomial, Polynomial, 3, {key: Ratio(1) for key in keys[:5001]})
        # There are more than 5000 entries, whether or not some of them have the ratio 0.
        self.assertRaises(InvalidPolynomial, Polynomial, 3, {**full, keys[5000]: Ratio(0)})
        top = Polynomial(12, {(60,) * 12: Ratio(LONGEST, LONGEST - 1)})
        self.assertEqual(top.value_at((1,) * 12), Ratio(LONGEST, LONGEST - 1))
        self.assertRaises(InvalidPolynomial, Polynomial, 13, {})
        self.assertRaises(InvalidPolynomial, Polynomial, 13, {(0,) * 13: Ratio(1)})
        self.assertRaises(InvalidPolynomial, Polynomial, 12, {(60,) * 11 + (61,): Ratio(1)})
        self.assertRaises(InvalidPolynomial, Polynomial, 2, {(-1, 0): Ratio(1)})

    def test_wrong_values(self):
        for variables in VALUES:
            if not (isinstance(variables, int) and not isinstance(variables, bool) and 0 <= variables <= 12):
                self.assertRaises(InvalidPolynomial, Polynomial, variables, {})
        for terms in VALUES:
            if terms != {} and terms != {(1, 0): Ratio(1, 2)}:
                self.assertRaises(InvalidPolynomial, Polynomial, 2, terms)
        for key in VALUES:
            if isinstance(key, (int, str, bool, tuple, type(None))):
                try:
                    terms = {(0,) * 5: Ratio(1), key: Ratio(1)}
                except TypeError:
                    continue
                self.assertRaises(InvalidPolynomial, Polynomial, 5, terms)
        for key in ((1,), (1, 2, 3), (True, 0), (0, False), ("a", 0), (61, 0), (0, -1), ((1, 0),), "ab", 5):
            self.assertRaises(InvalidPolynomial, Polynomial, 2, {key: Ratio(1)})
            self.assertRaises(InvalidPolynomial, Polynomial, 2, {(5, 5): Ratio(1), key: Ratio(0)})
        for ratio in VALUES:
            if not isinstance(ratio, Ratio):
                self.assertRaises(InvalidPolynomial, Polynomial, 2, {(1, 0): ratio})


class ValueTest(unittest.TestCase):
    def test_13_1_values(self):
        for source, one, other in samples(1):
            numbers = tuple(source.randint(-9, 9) for _ in range(one.variables))
            self.assertEqual(fraction(one.value_at(numbers)), value(one, numbers))
            numbers = tuple(source.choice((0, 1, -1, LONGEST, -LONGEST)) for _ in range(one.variables))
            self.assertEqual(fraction(one.value_at(numbers)), value(one, numbers))

    def test_power_with_the_exponent_0(self):
        one = Polynomial(2, {(0, 0): Ratio(3), (0, 1): Ratio(1)})
        self.assertEqual(one.value_at((0, 0)), Ratio(3))
        self.assertEqual(one.value_at((5, -3)), Ratio(0))

    def test_many_terms(self):
        source = random.Random(2)
        one = made_up(source, 12, 5000, 60)
        numbers = tuple(source.choice((-1, 1, 0, 2)) for _ in range(12))
        self.assertEqual(fraction(one.value_at(numbers)), value(one, numbers))
        long = made_up(source, 1, 60, 60, LONGEST)
        self.assertEqual(fraction(long.value_at((LONGEST,))), value(long, (LONGEST,)))

    def test_wrong_numbers(self):
        one = Polynomial(2, {(1, 0): Ratio(1)})
        for numbers in VALUES + ((1, True), (1, TOO_LONG), (1,), (1, 2, 3), [1, 2], (1, Ratio(2)), (None, 1)):
            if numbers not in ((1, 2), (3, 2), (6, 3)):
                self.assertRaises(InvalidOperation, one.value_at, numbers)
        self.assertEqual(one.value_at((3, 2)), Ratio(3))


class OperatorTest(unittest.TestCase):
    def test_sums_and_products(self):
        for source, one, other in samples(3):
            numbers = tuple(source.randint(-9, 9) for _ in range(one.variables))
            for made, wanted in ((one + other, value(one, numbers) + value(other, numbers)),
                                 (one - other, value(one, numbers) - value(other, numbers)),
                                 (one * other, value(one, numbers) * value(other, numbers))):
                self.assertEqual(fraction(made.value_at(numbers)), wanted)
                self.assertEqual(made.variables, one.variables)
                self.assertEqual(list(made.terms), sorted(made.terms))
                self.assertTrue(all(made.terms.values()))
            self.assertEqual(plain(one * other), product(one, other))
            self.assertEqual(one * other, other * one)
            self.assertEqual(one - one, Polynomial(one.variables, {}))
            self.assertEqual((one - other) + other, one)
            self.assertEqual((one + other) * (one - other), one * one - other * other)

    def test_ratios_with_long_bottoms(self):
        source = random.Random(4)
        for variables, most in ((1, 20), (2, 4), (12, 4)):
            one, other = made_up(source, variables, 40, most, LONGEST), made_up(source, variables, 30, most, LONGEST)
            self.assertEqual(plain(one * other), product(one, other))
            self.assertEqual(one * other - one * other, Polynomial(variables, {}))
            self.assertFalse(one - one)

    def test_equal_values_and_equal_terms(self):
        # [13.1]: polynomials with unlike terms differ somewhere.
        for source, one, other in samples(5):
            grid = itertools.islice(itertools.product(range(4), repeat=one.variables), 2000)
            if one.variables < 6:
                same = all(one.value_at(numbers) == other.value_at(numbers) for numbers in grid)
                self.assertIs(one == other, same)
            self.assertIs(one == other, plain(one) == plain(other))

    def test_too_many_terms(self):
        source = random.Random(6)
        wide = Polynomial(12, {tuple(source.randint(0, 60) for _ in range(12)): Ratio(1) for _ in range(5000)})
        two = Polynomial(12, {(0,) * 12: Ratio(1), (1,) + (0,) * 11: Ratio(1)})
        many = Polynomial(12, {(at,) + (0,) * 11: Ratio(1, at + 1) for at in range(50)})
        rows = Polynomial(12, {(0, at) + (0,) * 10: Ratio(at + 1) for at in range(50)})
        beside = Polynomial(12, {(0, 0, at) + (0,) * 9: Ratio(at + 1) for at in range(2)})
        full = many * rows * beside
        self.assertEqual(len(full), 5000)
        self.assertEqual(full + two - full, two)
        self.assertEqual(len(full * Polynomial(12, {(1,) * 12: Ratio(1, 3)})), 5000)
        for call in (lambda: full + Polynomial(12, {(0,) * 11 + (1,): Ratio(1)}), lambda: wide * two, lambda: wide * wide,
                     lambda: full * full, lambda: wide - full, lambda: many * rows * beside * beside):
            with self.assertRaises(TooMany) as caught:
                call()
            self.assertEqual(caught.exception.most, 5000)

    def test_just_as_many_terms(self):
        # What falls out of a product, or of a sum, does not count.
        one = Polynomial(2, {(at, 0): Ratio((-1) ** at) for at in range(30)})
        other = Polynomial(2, {(0, 0): Ratio(1), (1, 0): Ratio(1)})
        self.assertEqual(plain(one * other), {(0, 0): 1, (30, 0): -1})
        signs = [dict((exponents, Ratio((-1) ** (sum(exponents) * at))) for exponents in itertools.product((0, 1), repeat=10))
                 for at in (0, 1)]
        made = Polynomial(10, signs[0]) * Polynomial(10, signs[1])
        self.assertEqual(plain(made), {tuple(2 * number for number in at): (-1) ** sum(at) for at in signs[0]})
        # 71 and 71 terms make 5041, 71 and 70 make 4970.
        for many in (70, 71):
            rows = Polynomial(4, {(at // 10, at % 10, 0, 0): Ratio(1) for at in range(71)})
            columns = Polynomial(4, {(0, 0, at // 10, at % 10): Ratio(-1, 7) for at in range(many)})
            if many == 70:
                self.assertEqual(len(rows * columns), 4970)
            else:
                self.assertRaises(TooMany, lambda: rows * columns)

    def test_too_great_exponents(self):
        for variables in (1, 2, 12):
            for at in range(variables):
                high = Polynomial(variables, {tuple(60 if at == index else 0 for index in range(variables)): Ratio(1)})
                half = Polynomial(variables, {tuple(30 if at == index else 7 for index in range(variables)): Ratio(1)})
                single = Polynomial(variables, {tuple(int(at == index) for index in range(variables)): Ratio(1)})
                self.assertEqual(max(max(key) for key in (half * half).terms), 60)
                for one, other in ((high, single), (single, high), (half * half, half), (high, high)):
                    with self.assertRaises(TooMany) as caught:
                        one * other
                    self.assertEqual(caught.exception.most, 60)
        # An exponent that falls out of the product does not count.
        one = Polynomial(2, {(40, 0): Ratio(1), (0, 1): Ratio(1)})
        self.assertRaises(TooMany, lambda: one * one)

    def test_terms_are_counted_ahead_of_exponents(self):
        one = Polynomial(2, {(a, b): Ratio(1) for a in range(61) for b in range(61)})
        few = Polynomial(2, {(a, b): Ratio(1) for a in range(35) for b in range(35)})
        for first, second, most in ((one, one, 5000), (few, few, 60)):
            with self.assertRaises(TooMany) as caught:
                first * second
            self.assertEqual(caught.exception.most, most)

    def test_other_kinds(self):
        one = Polynomial(2, {(1, 0): Ratio(1, 2)})
        for other in VALUES:
            if isinstance(other, Polynomial):
                continue
            for call in (lambda: one + other, lambda: one - other, lambda: one * other):
                self.assertRaises(TypeError, call)
            if not isinstance(other, (int, Ratio)):
                for call in (lambda: other + one, lambda: other - one, lambda: other * one):
                    self.assertRaises(TypeError, call)
        for variables in (0, 1, 3, 12):
            other = Polynomial(variables, {})
            for call in (lambda: one + other, lambda: one - other, lambda: one * other):
                self.assertRaises(InvalidPolynomial, call)


class FoldTest(unittest.TestCase):
    def test_folds_tell_of_no_term_too_many(self):
        source = random.Random(7)
        told = {True: 0, False: 0}
        for _ in range(60):
            one, other = [{source.randrange(10 ** 6): Ratio(source.randint(-3, 3) or 1, source.randint(1, 5))
                           for _ in range(source.randint(1, 12))} for _ in range(2)]
            found = {}
            for (a, x), (b, y) in itertools.product(one.items(), other.items()):
                found[a + b] = found.get(a + b, 0) + fraction(x) * fraction(y)
            many = len([number for number in found.values() if number])
            for most in (many - 1, many, many // 2, 3 * many):
                answer = folds.has_long_product(one, other, most)
                told[answer] += 1
                if answer:
                    self.assertGreater(many, most)
        self.assertGreater(min(told.values()), 40)

    def test_bottoms_that_the_prime_divides(self):
        one = {0: Ratio(1, 2147483629), 1: Ratio(1)}
        self.assertIs(folds.has_long_product(one, {0: Ratio(1)}, 1), False)
        self.assertIs(folds.has_long_product({0: Ratio(1, 5), 1: Ratio(1)}, {0: Ratio(1)}, 1), True)


class TextTest(unittest.TestCase):
    def test_texts(self):
        for terms, text in (
            ({(2, 1, 0, 0): Ratio(-1, 2), (0, 0, 0, 1): Ratio(1), (0, 0, 0, 0): Ratio(-4)}, "-1/2*x0^2*x1 + x3 - 4"),
            ({(0, 0, 0, 0): Ratio(1)}, "1"), ({(0, 0, 0, 0): Ratio(-1)}, "-1"), ({(0, 0, 0, 0): Ratio(-3, 7)}, "-3/7"),
            ({(0, 1, 0, 0): Ratio(-1)}, "-x1"), ({(0, 1, 0, 60): Ratio(1)}, "x1*x3^60"),
            ({(1, 1, 1, 1): Ratio(5), (1, 1, 1, 2): Ratio(-5, 3)}, "-5/3*x0*x1*x2*x3^2 + 5*x0*x1*x2*x3"),
            ({(0, 0, 1, 0): Ratio(1), (0, 0, 0, 9): Ratio(1), (1, 0, 0, 0): Ratio(-1)}, "-x0 + x2 + x3^9"),
            ({(10, 0, 0, 0): Ratio(2), (9, 60, 60, 60): Ratio(-2)}, "2*x0^10 - 2*x0^9*x1^60*x2^60*x3^60"),
            ({(0, 0, 0, 0): Ratio(LONGEST, 2), (1, 0, 0, 0): Ratio(-1)}, "-x0 + " + "9" * 60 + "/2"),
        ):
            self.assertEqual(str(Polynomial(4, terms)), text)
        self.assertEqual(str(Polynomial(12, {(0,) * 11 + (1,): Ratio(1), (0,) * 10 + (3, 0): Ratio(1)})), "x10^3 + x11")

    def test_equality(self):
        one = Polynomial(2, {(1, 0): Ratio(1, 2)})
        self.assertTrue(one == Polynomial(2, {(0, 1): Ratio(0), (1, 0): Ratio(2, 4)}))
        self.assertFalse(one != Polynomial(2, {(1, 0): Ratio(1, 2)}))
        for other in VALUES + (Polynomial(3, {(1, 0, 0): Ratio(1, 2)}), Polynomial(2, {(1, 0): Ratio(1)}),
                               Polynomial(2, {(0, 1): Ratio(1, 2)}), Polynomial(2, {}), one.terms):
            if not (isinstance(other, Polynomial) and str(other) == "1/2*x0" and other.variables == 2):
                self.assertFalse(one == other)
                self.assertTrue(one != other)
        self.assertFalse(Polynomial(1, {}) == Polynomial(2, {}))
        self.assertTrue(bool(one))


if __name__ == "__main__":
    unittest.main()
