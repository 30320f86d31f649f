"""[0.8]: shapes and places."""

import itertools
import unittest

from stairlots.base import shapes
from stairlots.base.shapes import is_place, is_shape, places
from stairlots.errors import InvalidShape
from tests.helper import SHAPES, VALUES


class ShapeTest(unittest.TestCase):
    def test_constant(self):
        self.assertEqual(shapes.MAX_BOXES, 8)

    def test_all_short_tuples(self):
        for many in range(5):
            for sizes in itertools.product(range(-1, 9), repeat=many):
                wanted = 1 <= many <= 3 and all(2 <= size <= 6 for size in sizes) and sum(sizes) <= 8
                self.assertIs(is_shape(sizes), wanted, sizes)

    def test_example(self):
        self.assertEqual([is_shape((6, 2)), is_shape((6, 3))], [True, False])

    def test_other_values(self):
        for value in VALUES:
            self.assertIs(is_shape(value), type(value) is tuple and value in ((3,), (3, 2)), repr(value))
        for value in ([3], (3, True), (3, "2"), (3, None), (10 ** 99,), (-3,), ((3,),), "3", 3):
            self.assertIs(is_shape(value), False)


class PlacesTest(unittest.TestCase):
    def test_examples(self):
        self.assertEqual(places((3,)), ((0, 0, 1), (0, 1, 2), (0, 0, 2)))
        self.assertEqual(places((2, 3)), ((0, 0, 1), (1, 0, 1), (1, 1, 2), (1, 0, 2)))

    def test_order(self):
        for shape in SHAPES:
            triples = itertools.product(range(len(shape)), range(6), range(6))
            found = [(b, i, j) for b, i, j in triples if i < j < shape[b]]
            found = sorted(found, key=lambda place: (place[2] - place[1], place[0], place[1]))
            self.assertEqual(places(shape), tuple(found))

    def test_is_place(self):
        for shape in SHAPES:
            for value in itertools.product(range(-1, 4), range(-1, 7), range(-1, 7)):
                self.assertIs(is_place(shape, value), value in places(shape))
        self.assertIs(is_place((3,), (0, 2, 2)), False)

    def test_what_is_no_place(self):
        for value in VALUES:
            self.assertIs(is_place((3,), value), type(value) is tuple and value in ((0, 0, 1), (0, 1, 2)), repr(value))
        for value in ((0, 0), (0, 0, 1, 2), (0, False, 1), (False, 0, 1), (0, 0, True), [0, 0, 1], (0, 0, 10 ** 99),
                      (0, 0, "1"), (0, None, 1), ((0, 0, 1),)):
            self.assertIs(is_place((3,), value), False)

    def test_wrong_shapes(self):
        for value in VALUES:
            if not is_shape(value):
                with self.assertRaises(InvalidShape):
                    places(value)
                with self.assertRaises(InvalidShape):
                    is_place(value, (0, 0, 1))
                with self.assertRaises(InvalidShape):
                    is_place(value, None)


if __name__ == "__main__":
    unittest.main()
