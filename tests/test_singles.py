"""Stairs as products of singles."""

import random
import unittest

from stairlots.base.shapes import is_shape, places
from stairlots.base.wholes import is_integer
from stairlots.errors import InvalidOperation, InvalidShape, InvalidStair
from stairlots.stair.singles import from_singles, singles
from stairlots.stair.stairs import Stair
from tests.helper import A, B, LONGEST, SHAPES, TOO_LONG, VALUES, made_up_stair


def product_of_singles(shape, numbers, backwards):
    """The product of the singles, one by one."""
    found = Stair.one(shape)
    for place, number in zip(places(shape), numbers):
        single = Stair.single(shape, place, number)
        found = single * found if backwards else found * single
    return found


class SinglesTest(unittest.TestCase):
    def test_example(self):
        self.assertEqual([singles(A * B), singles(A * B, backwards=True), str(from_singles((3,), (1, 1, 0))),
                          str(from_singles((3,), (1, 1, 0), backwards=True))],
                         [(1, 1, 0), (1, 1, 1), "1 1/1", "1 0/1"])

    def test_both_ways(self):
        source = random.Random(1)
        for shape in SHAPES:
            for most in (1, 9, 10 ** 20):
                numbers = tuple(source.randint(-most, most) for _ in places(shape))
                for backwards in (False, True):
                    stair = from_singles(shape, numbers, backwards=backwards)
                    self.assertEqual(stair, product_of_singles(shape, numbers, backwards))
                    self.assertEqual(singles(stair, backwards=backwards), numbers)
                self.assertEqual(singles(from_singles(shape, numbers)), numbers)

    def test_of_made_up_stairs(self):
        source = random.Random(2)
        for shape in SHAPES:
            stair = made_up_stair(source, shape, 9)
            for backwards in (False, True):
                self.assertEqual(product_of_singles(shape, singles(stair, backwards=backwards), backwards), stair)
            self.assertEqual(singles(Stair.one(shape)), (0,) * len(places(shape)))

    def test_long_integers(self):
        x = A.power(LONGEST) * B.power(LONGEST)
        self.assertEqual(singles(x), (LONGEST, LONGEST, 0))
        self.assertEqual(singles(x, backwards=True), (LONGEST, LONGEST, LONGEST ** 2))
        self.assertEqual(from_singles((3,), (LONGEST, LONGEST, 0)), x)

    def test_wrong_values_of_singles(self):
        for value in VALUES:
            if not isinstance(value, Stair):
                self.assertRaises(InvalidStair, singles, value)
                with self.assertRaises(InvalidStair):
                    singles(value, backwards=None)
            if not isinstance(value, bool):
                with self.assertRaises(InvalidOperation):
                    singles(A, backwards=value)
                with self.assertRaises(InvalidOperation):
                    from_singles((3,), (0, 0, 0), backwards=value)

    def test_wrong_values_of_from_singles(self):
        for value in VALUES:
            if not is_shape(value):
                self.assertRaises(InvalidShape, from_singles, value, None)
            if value != (0, 0, 1) and value != (0, 1, 2):
                self.assertRaises(InvalidOperation, from_singles, (3,), value)
            if not is_integer(value):
                self.assertRaises(InvalidOperation, from_singles, (3,), (0, value, 0))
        for numbers in ((0, 0), (0, 0, 0, 0), [0, 0, 0], (0, 0, True), (0, 0, TOO_LONG), "000", {0: 0, 1: 0, 2: 0}):
            self.assertRaises(InvalidOperation, from_singles, (3,), numbers)


if __name__ == "__main__":
    unittest.main()
