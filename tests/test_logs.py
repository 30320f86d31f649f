"""[14.1] to [14.3] and the functions of logs."""

import fractions
import math
import random
import unittest

from stairlots.base.ratios import Ratio
from stairlots.base.shapes import is_shape, places
from stairlots.errors import InvalidShape, InvalidSpan, InvalidStair
from stairlots.roots.logs import bracket_of_logs, joined_logs, log_of, stair_of
from stairlots.stair.stairs import Stair
from tests.helper import A, B, C, LONGEST, SHAPES, VALUES, made_up_stair

ONE, NONE = Ratio(1), Ratio(0)


def fraction(ratio):
    """The ratio as a value of Python's own."""
    return fractions.Fraction(ratio.top, ratio.bottom)


def tables_of(shape, row):
    """The whole tables of a row, with 0 from corner to corner, as values of Python's own."""
    found = [[[fractions.Fraction(0)] * size for _ in range(size)] for size in shape]
    for (block, i, j), number in zip(places(shape), row):
        found[block][i][j] = fractions.Fraction(number)
    return found


def product(one, other):
    """The products of tables."""
    return [[[sum(x[i][k] * y[k][j] for k in range(len(x))) for j in range(len(x))] for i in range(len(x))]
            for x, y in zip(one, other)]


def combined(*parts):
    """The sum of multiples of tables."""
    sizes = [len(table) for table in parts[0][1]]
    return [[[sum(factor * tables[block][i][j] for factor, tables in parts) for j in range(size)] for i in range(size)]
            for block, size in enumerate(sizes)]


def series(tables, factor):
    """The sum of the powers of tables, the n-th one times what the factor tells of n."""
    found, power = combined((factor(1), tables)), tables
    for many in range(2, 7):
        power = product(power, tables)
        found = combined((1, found), (factor(many), power))
    return found


def log_tables(tables):
    """[14.2]: the log of 1 and these tables."""
    return series(tables, lambda many: fractions.Fraction((-1) ** (many + 1), many))


def tables_with_log(tables):
    """[14.2]: what stands beside the ones in the tables with this log."""
    return series(tables, lambda many: fractions.Fraction(1, math.factorial(many)))


def numbers_in(shape, tables):
    """The numbers of tables at the places, in order."""
    return [tables[block][i][j] for block, i, j in places(shape)]


def stairs(seed):
    """Stairs of all kinds of shapes."""
    source = random.Random(seed)
    for shape in SHAPES:
        for most in (1, 9, LONGEST):
            for part in (0.3, 1):
                yield source, made_up_stair(source, shape, most, part)


def some_row(source, shape, most, long):
    """A row with such tops and bottoms."""
    return tuple(Ratio(source.randint(-most, most), source.randint(1, long)) for _ in places(shape))


def rows(seed):
    """Pairs of rows of all kinds of shapes: with ratios that are whole, and with ratios that are not."""
    source = random.Random(seed)
    for shape in SHAPES:
        for most, long in ((5, 1), (5, 4), (0, 1), (LONGEST, 1), (LONGEST, LONGEST), (1, LONGEST)):
            yield source, shape, some_row(source, shape, most, long), some_row(source, shape, most, long)


class ExampleTest(unittest.TestCase):
    def test_document(self):
        self.assertEqual([str(one) for one in log_of(Stair.read("2 5/2"))], ["2", "2", "3"])
        self.assertEqual([[str(one) for one in row((3,), (ONE, NONE, NONE), (NONE, ONE, NONE))]
                          for row in (joined_logs, bracket_of_logs)], [["1", "1", "1/2"], ["0", "0", "1"]])


class LogTest(unittest.TestCase):
    def test_14_2_logs(self):
        for source, stair in stairs(1):
            shape = stair.shape
            log = log_of(stair)
            self.assertIsInstance(log, tuple)
            self.assertTrue(all(isinstance(ratio, Ratio) for ratio in log))
            self.assertEqual([fraction(ratio) for ratio in log],
                             numbers_in(shape, log_tables(tables_of(shape, stair.numbers))))

    def test_14_2_there_and_back(self):
        for source, stair in stairs(2):
            self.assertEqual(stair_of(stair.shape, log_of(stair)), stair)

    def test_14_2_leads(self):
        for source, stair in stairs(3):
            led = [place for place, ratio in zip(places(stair.shape), log_of(stair)) if ratio]
            self.assertEqual(led[:1], [] if stair.lead is None else [stair.lead])
            if led:
                at = places(stair.shape).index(led[0])
                self.assertEqual(log_of(stair)[at], Ratio(0) + stair.numbers[at])

    def test_14_2_rows_with_stairs_and_without(self):
        found = {True: 0, False: 0}
        source = random.Random(4)
        for shape in SHAPES:
            for _ in range(12):
                row = tuple(Ratio(source.randint(-6, 6), source.choice((1, 1, 2, 6))) for _ in places(shape))
                if source.random() < 0.3:
                    row = tuple(Ratio(6 * source.randint(-6, 6)) for _ in places(shape))
                numbers = numbers_in(shape, tables_with_log(tables_of(shape, [fraction(ratio) for ratio in row])))
                whole = all(number.denominator == 1 for number in numbers)
                found[whole] += 1
                stair = stair_of(shape, row)
                self.assertIs(stair is not None, whole)
                if whole:
                    self.assertEqual(stair.numbers, tuple(number.numerator for number in numbers))
                    self.assertEqual(log_of(stair), row)
        self.assertGreater(min(found.values()), 30)

    def test_one_entry_that_is_not_whole(self):
        self.assertIsNone(stair_of((3,), (ONE, ONE, NONE)))
        self.assertEqual(stair_of((3,), (ONE, ONE, Ratio(1, 2))), A * B)
        self.assertIsNone(stair_of((3,), (ONE, ONE, Ratio(1, 3))))
        self.assertIsNone(stair_of((2,), (Ratio(1, LONGEST),)))
        self.assertIsNone(stair_of((2, 2), (ONE, Ratio(1, 2))))
        self.assertEqual(stair_of((2, 2), (ONE, Ratio(-LONGEST))), Stair.single((2, 2), (1, 0, 1), -LONGEST)
                         * Stair.single((2, 2), (0, 0, 1), 1))

    def test_14_3_powers(self):
        for source, stair in stairs(5):
            for number in (0, 1, -1, 2, -3, 10 ** 20, LONGEST, -LONGEST):
                power = stair.power(number)
                self.assertEqual(log_of(power), tuple(ratio * number for ratio in log_of(stair)))
                self.assertEqual(stair_of(stair.shape, tuple(ratio * number for ratio in log_of(stair))), power)

    def test_14_3_stairs_that_commute(self):
        found = {True: 0, False: 0}
        for source, stair in stairs(6):
            shape = stair.shape
            others = [made_up_stair(source, shape, 2, 0.3), stair.power(3), Stair.one(shape)]
            others.append(others[1] * Stair.single(shape, places(shape)[-1], 7))
            for other in others:
                commute = stair * other == other * stair
                found[commute] += 1
                self.assertIs(not any(bracket_of_logs(shape, log_of(stair), log_of(other))), commute)
                if commute:
                    added = tuple(a + b for a, b in zip(log_of(stair), log_of(other)))
                    self.assertEqual(log_of(stair * other), added)
        self.assertGreater(min(found.values()), 10)


class JoinedTest(unittest.TestCase):
    def test_logs_of_products(self):
        for source, stair in stairs(7):
            other = made_up_stair(source, stair.shape, 9, 0.6)
            self.assertEqual(joined_logs(stair.shape, log_of(stair), log_of(other)), log_of(stair * other))
            self.assertEqual(joined_logs(stair.shape, log_of(other), log_of(stair)), log_of(other * stair))

    def test_rows_that_need_not_be_logs_of_stairs(self):
        for source, shape, one, other in rows(8):
            first, second = [tables_with_log(tables_of(shape, [fraction(ratio) for ratio in row])) for row in (one, other)]
            both = combined((1, first), (1, second), (1, product(first, second)))
            self.assertEqual([fraction(ratio) for ratio in joined_logs(shape, one, other)],
                             numbers_in(shape, log_tables(both)))

    def test_nothing_and_back(self):
        for source, shape, one, other in rows(9):
            none = (NONE,) * len(places(shape))
            self.assertEqual(joined_logs(shape, one, none), one)
            self.assertEqual(joined_logs(shape, none, one), one)
            self.assertEqual(joined_logs(shape, one, tuple(-ratio for ratio in one)), none)
            self.assertEqual(joined_logs(shape, one, one), tuple(ratio * 2 for ratio in one))
            joined = joined_logs(shape, one, other)
            self.assertEqual(joined_logs(shape, joined, tuple(-ratio for ratio in other)), one)


class BracketTest(unittest.TestCase):
    def test_14_1_brackets(self):
        for source, shape, one, other in rows(10):
            first, second = tables_of(shape, map(fraction, one)), tables_of(shape, map(fraction, other))
            wanted = combined((1, product(first, second)), (-1, product(second, first)))
            self.assertEqual([fraction(ratio) for ratio in bracket_of_logs(shape, one, other)], numbers_in(shape, wanted))
            back = bracket_of_logs(shape, other, one)
            self.assertEqual(bracket_of_logs(shape, one, other), tuple(-ratio for ratio in back))
            self.assertFalse(any(bracket_of_logs(shape, one, one)))

    def test_14_1_place_by_place(self):
        shape = (5,)
        source, spots = random.Random(11), places(shape)
        one, other = some_row(source, shape, 9, 9), some_row(source, shape, 9, 9)
        x, y = dict(zip(spots, one)), dict(zip(spots, other))
        for (b, i, j), ratio in zip(spots, bracket_of_logs(shape, one, other)):
            wanted = Ratio(0)
            for k in range(i + 1, j):
                wanted = wanted + x[b, i, k] * y[b, k, j] - y[b, i, k] * x[b, k, j]
            self.assertEqual(ratio, wanted)


class WrongTest(unittest.TestCase):
    def test_stairs(self):
        for value in VALUES:
            if not isinstance(value, Stair):
                self.assertRaises(InvalidStair, log_of, value)

    def test_shapes(self):
        for value in VALUES + ((7,), (2, 2, 2, 2), [3]):
            if not is_shape(value):
                self.assertRaises(InvalidShape, stair_of, value, None)
                for call in (joined_logs, bracket_of_logs):
                    self.assertRaises(InvalidShape, call, value, None, None)

    def test_rows(self):
        good = (ONE, NONE, Ratio(1, 2))
        for value in VALUES + ((ONE, NONE), (ONE,) * 4, [ONE] * 3, (ONE, NONE, 1), (ONE, None, ONE), (1, 0, 0), (ONE, True, ONE),
                               (ONE, NONE, (ONE,)), ((ONE, NONE, NONE),), {0: ONE, 1: ONE, 2: ONE}, "1 1 1"):
            if value == good:
                continue
            self.assertRaises(InvalidSpan, stair_of, (3,), value)
            for call in (joined_logs, bracket_of_logs):
                self.assertRaises(InvalidSpan, call, (3,), value, good)
                self.assertRaises(InvalidSpan, call, (3,), good, value)
                self.assertRaises(InvalidSpan, call, (3,), value, None)
        self.assertRaises(InvalidSpan, stair_of, (3, 2), good)
        self.assertIsNone(stair_of((2, 2, 2), good))

    def test_bracket_of_units(self):
        self.assertEqual(bracket_of_logs((3,), log_of(A), log_of(B)), log_of(C))


if __name__ == "__main__":
    unittest.main()
