"""Grids: what is left of all rows of integers by the sums of multiples of some."""

import itertools
import math
import random
import unittest

from stairlots.base.grids import kind_of


def smaller_parts(rows, many):
    """The greatest common divisors of all products of so many columns and rows that are taken apart (by their minors)."""
    found = []
    for size in range(1, many + 1):
        found.append(math.gcd(*[determinant([[rows[i][j] for j in columns] for i in lines])
                                for lines in itertools.combinations(range(len(rows)), size)
                                for columns in itertools.combinations(range(many), size)]))
    return found


def determinant(grid):
    """By its first row."""
    if not grid:
        return 1
    return sum((-1) ** j * number * determinant([row[:j] + row[j + 1:] for row in grid[1:]])
               for j, number in enumerate(grid[0]))


class KindTest(unittest.TestCase):
    def test_known_kinds(self):
        self.assertEqual(kind_of([], 0), ())
        self.assertEqual(kind_of([], 3), (0, 0, 0))
        self.assertEqual(kind_of([[0, 0], [0, 0]], 2), (0, 0))
        self.assertEqual(kind_of([[1, 0], [0, 1]], 2), ())
        self.assertEqual(kind_of([[2, 0], [0, 3]], 2), (6,))
        self.assertEqual(kind_of([[4, 0], [0, 6]], 2), (2, 12))
        self.assertEqual(kind_of([[0, -2], [6, 0]], 3), (2, 6, 0))
        self.assertEqual(kind_of([[2, 4], [4, 2], [6, 6]], 2), (2, 6))
        self.assertEqual(kind_of([[6, 10, 15]], 3), (0, 0))
        self.assertEqual(kind_of([[-7]], 1), (7,))

    def test_by_minors(self):
        source = random.Random(1)
        for _ in range(300):
            many, lines = source.randint(1, 4), source.randint(0, 5)
            rows = [[source.randint(-6, 6) * source.choice((0, 1, 1, 2, 6)) for _ in range(many)] for _ in range(lines)]
            minors = [1] + smaller_parts(rows, many)
            wanted = [b // a if a else 0 for a, b in zip(minors, minors[1:])]
            self.assertEqual(kind_of(rows, many), tuple(number for number in wanted if number != 1))

    def test_long_numbers(self):
        source = random.Random(2)
        for _ in range(10):
            rows = [[source.randint(-10 ** 60, 10 ** 60) for _ in range(6)] for _ in range(7)]
            kind = kind_of(rows, 6)
            self.assertTrue(all(b % a == 0 for a, b in zip(kind, kind[1:])))
        rows = [[0] * at + [10 ** 60 * (at + 1)] + [source.randint(0, 9)] * (5 - at) for at in range(6)]
        self.assertEqual(math.prod(kind_of(rows, 6)), 720 * 10 ** 360)


if __name__ == "__main__":
    unittest.main()
