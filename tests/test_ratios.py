"""The class Ratio."""

import fractions
import unittest

from stairlots.base.ratios import Ratio
from stairlots.base.wholes import is_integer
from stairlots.errors import InvalidNumber, InvalidOperation, ParseError
from tests.helper import A, LONGEST, OTHERS, TOO_LONG, VALUES

TERMS = ((0, 1), (0, -7), (1, 1), (-1, 1), (2, -4), (1, 3), (-9, 6), (10, 4), (LONGEST, LONGEST - 1), (-LONGEST, 2))


def fraction(ratio):
    """The same as one of Python's own fractions."""
    return fractions.Fraction(ratio.top, ratio.bottom)


class RatioTest(unittest.TestCase):
    def test_examples(self):
        half, third = Ratio(2, -4), Ratio(1, 3)
        self.assertEqual([str(half), str(half + third), str(half * 6), str(third.over(half)), half.compared(third),
                          half.sign, Ratio.read("-1/2") == half, Ratio(3) == 3],
                         ["-1/2", "-1/6", "-3", "-2/3", -1, -1, True, False])
        self.assertEqual(str(Ratio(-3, 4)), "-3/4")

    def test_lowest_terms(self):
        for top, bottom in TERMS:
            ratio, wanted = Ratio(top, bottom), fractions.Fraction(top, bottom)
            self.assertEqual((ratio.top, ratio.bottom), (wanted.numerator, wanted.denominator))
            self.assertEqual(ratio.sign, (wanted > 0) - (wanted < 0))
            self.assertIs(bool(ratio), bool(wanted))
            self.assertEqual(str(ratio), str(wanted))
        self.assertEqual((Ratio(5).top, Ratio(5).bottom), (5, 1))

    def test_wrong_terms(self):
        for value in VALUES:
            if is_integer(value):
                continue
            with self.assertRaises(InvalidNumber) as caught:
                Ratio(value, 0)
            self.assertIs(caught.exception.given, value)
            with self.assertRaises(InvalidNumber) as caught:
                Ratio(1, value)
            self.assertIs(caught.exception.given, value)
        with self.assertRaises(InvalidNumber) as caught:
            Ratio(1, 0)
        self.assertEqual(caught.exception.given, 0)

    def test_operators(self):
        for terms in TERMS:
            one = Ratio(*terms)
            self.assertEqual(fraction(-one), -fraction(one))
            for other in [Ratio(*others) for others in TERMS] + [0, 1, -5, 10 ** 90]:
                value = fraction(other) if isinstance(other, Ratio) else other
                self.assertEqual(fraction(one + other), fraction(one) + value)
                self.assertEqual(fraction(one - other), fraction(one) - value)
                self.assertEqual(fraction(one * other), fraction(one) * value)
                self.assertEqual(one.compared(other), (fraction(one) > value) - (fraction(one) < value))
                if value:
                    self.assertEqual(fraction(one.over(other)), fraction(one) / value)
                else:
                    with self.assertRaises(InvalidOperation):
                        one.over(other)

    def test_results_are_in_lowest_terms(self):
        for made in (Ratio(1, 6) + Ratio(1, 3), Ratio(2, 3) * Ratio(3, 4), Ratio(5, 6) - Ratio(1, 3),
                     Ratio(1, 2).over(1), Ratio(-1, 2).over(Ratio(-1))):
            self.assertEqual((made.top, made.bottom), (1, 2))
        self.assertEqual(Ratio(1, 2).over(-2).bottom, 4)

    def test_results_can_be_long_and_be_passed_on(self):
        long = Ratio(LONGEST) * Ratio(LONGEST)
        self.assertEqual(long.top, LONGEST ** 2)
        self.assertEqual((long - long).top, 0)
        self.assertEqual(long.over(long), Ratio(1))
        self.assertEqual(long.compared(LONGEST ** 2), 0)

    def test_operands_of_another_kind(self):
        for value in OTHERS:
            if isinstance(value, Ratio):
                continue
            with self.assertRaises(TypeError):
                Ratio(1) + value
            with self.assertRaises(TypeError):
                Ratio(1) - value
            with self.assertRaises(TypeError):
                Ratio(1) * value
            for method in (Ratio(1).over, Ratio(1).compared):
                with self.assertRaises(InvalidNumber) as caught:
                    method(value)
                self.assertIs(caught.exception.given, value)

    def test_equality(self):
        self.assertTrue(Ratio(2, 4) == Ratio(1, 2))
        self.assertFalse(Ratio(2, 4) != Ratio(1, 2))
        for value in VALUES:
            if not isinstance(value, Ratio):
                self.assertFalse(Ratio(1) == value)
                self.assertTrue(Ratio(1) != value)
        self.assertFalse(Ratio(1, 2) == Ratio(1, 3))
        self.assertFalse(Ratio(1, 2) == Ratio(3, 2))

    def test_it_never_changes(self):
        for name in ("top", "bottom", "sign"):
            with self.assertRaises(AttributeError):
                setattr(Ratio(1), name, 2)
        with self.assertRaises(TypeError):
            iter(Ratio(1))


class ReadTest(unittest.TestCase):
    def test_each_text_of_a_ratio(self):
        for terms in TERMS:
            self.assertEqual(Ratio.read(str(Ratio(*terms))), Ratio(*terms))
        self.assertEqual(Ratio.read(f"1/{LONGEST}").bottom, LONGEST)

    def test_other_values(self):
        texts = ("2/4", "1/1", "1/0", "1/-2", "-0", "00", "01", "1/02", "+1", "1 ", " 1", "1/", "/2", "1/2/3", "-", "--1",
                 "1_0", "1.5", "0/1", "0/5", "1/2\n", str(TOO_LONG), f"1/{TOO_LONG}", f"-{TOO_LONG}", "a", "", "-1/-2")
        for value in texts + tuple(value for value in VALUES if value != "1"):
            with self.assertRaises(ParseError) as caught:
                Ratio.read(value)
            self.assertEqual(caught.exception.spot, 0)


if __name__ == "__main__":
    unittest.main()
