"""[14.6] to [14.8] and the functions of spans."""

import math
import random
import unittest

from stairlots.base.ratios import Ratio
from stairlots.base.shapes import is_shape, places
from stairlots.errors import InvalidLot, InvalidShape, InvalidSpan
from stairlots.lots.lots import Lot
from stairlots.roots.logs import bracket_of_logs, log_of, stair_of
from stairlots.roots.roots import is_rooted, rooted
from stairlots.roots.spans import is_span, lot_of_span, span_of
from stairlots.stair.stairs import Stair
from tests.helper import (A, ALL3, B, C, LONGEST, SHAPES, VALUES, made_up_member, made_up_stair, sample_lots)

ONE, NONE, HALF = Ratio(1), Ratio(0), Ratio(1, 2)


def lots(seed, most=9):
    """Lots of all kinds."""
    return sample_lots(seed, most, 1) + sample_lots(seed + 1, LONGEST, 1, ((2,), (3,), (4,), (2, 3), (6, 2)))


def left_of(row, rows):
    """What is left of a row when multiples of others are taken from it, so that it has 0 at their leads."""
    found = list(row)
    for other in rows:
        lead = [at for at, ratio in enumerate(other) if ratio][0]
        factor = found[lead].over(other[lead])
        found = [ratio - factor * more for ratio, more in zip(found, other)]
    return found


class ExampleTest(unittest.TestCase):
    def test_document(self):
        lot = Lot((3,), (Stair.read("4 2/0"),))
        self.assertEqual([[str(one) for one in row] for row in span_of(lot)], [["1", "0", "1/2"]])
        self.assertIs(is_span((3,), ((ONE, NONE, NONE), (NONE, ONE, NONE))), False)


class SpanTest(unittest.TestCase):
    def test_14_7_spans_of_lots(self):
        for lot in lots(1):
            source = random.Random(1)
            rows = span_of(lot)
            self.assertIsInstance(rows, tuple)
            self.assertEqual(len(rows), len(lot))
            leads = [[at for at, ratio in enumerate(row) if ratio][0] for row in rows]
            self.assertEqual([places(lot.shape)[at] for at in leads], list(lot.leads))
            for i, row in enumerate(rows):
                self.assertEqual([row[lead] for lead in leads], [Ratio(int(i == j)) for j in range(len(rows))])
            for stair in lot.makers + (made_up_member(source, lot), made_up_member(source, lot)):
                self.assertFalse(any(left_of(log_of(stair), rows)))
            for i, one in enumerate(rows):
                for other in rows[i + 1:]:
                    self.assertFalse(any(left_of(bracket_of_logs(lot.shape, one, other), rows)))
            self.assertIs(is_span(lot.shape, rows), True)

    def test_14_8_one_by_one(self):
        for lot in lots(2):
            rows = span_of(lot)
            outer = lot_of_span(lot.shape, rows)
            self.assertEqual(outer.makers, outer.chain)
            self.assertEqual(outer, rooted(lot))
            self.assertEqual(span_of(outer), rows)
            self.assertIs(is_rooted(outer), True)
            self.assertIsNotNone(lot.index_in(outer))

    def test_14_8_all_stairs_with_their_logs_in_the_span(self):
        found = {True: 0, False: 0}
        for lot in lots(3, 4):
            source = random.Random(3)
            rows = span_of(lot)
            outer = lot_of_span(lot.shape, rows)
            for one in outer.chain:
                self.assertFalse(any(left_of(log_of(one), rows)))
            for kind in range(6):
                stair = made_up_member(source, outer, 2)
                if kind % 2:
                    stair = stair * made_up_stair(source, lot.shape, 2, 0.2)
                if kind > 3 and rows:
                    # Any stair with a log in the span, found by some multiple of a sum of rows.
                    row = [one + other * 3 for one, other in zip(source.choice(rows), source.choice(rows))]
                    many = 60 * math.lcm(*[ratio.bottom for ratio in row])
                    stair = stair_of(lot.shape, tuple(ratio * many for ratio in row))
                wanted = not any(left_of(log_of(stair), rows))
                found[wanted] += 1
                self.assertIs(stair in outer, wanted)
        self.assertGreater(min(found.values()), 40)

    def test_spans_that_are_passed(self):
        for shape, rows, chain in (
            ((3,), ((ONE, NONE, HALF),), ["2 1/0"]),
            ((3,), ((ONE, NONE, Ratio(1, 3)),), ["3 1/0"]),
            ((3,), ((ONE, ONE, NONE),), ["2 2/2"]),
            ((3,), ((ONE, ONE, NONE), (NONE, NONE, ONE)), ["1 0/1", "0 1/0"]),
            ((3,), ((ONE, NONE, NONE), (NONE, NONE, ONE)), ["1 0/0", "0 1/0"]),
            ((3,), ((NONE, ONE, NONE),), ["0 0/1"]),
            ((3,), ((ONE, HALF, NONE), (NONE, NONE, ONE)), ["2 0/1", "0 1/0"]),
            ((2, 2), ((ONE, Ratio(-2, 3)),), ["3; -2"]),
            ((2, 2), ((NONE, ONE),), ["0; 1"]),
            ((2,), ((ONE,),), ["1"]),
            ((2, 2, 2), ((ONE, NONE, Ratio(1, 6)), (NONE, ONE, Ratio(1, 10))), ["3; 5; 1", "0; 10; 1"]),
        ):
            with self.subTest(shape=shape, chain=chain):
                self.assertIs(is_span(shape, rows), True)
                lot = lot_of_span(shape, rows)
                self.assertEqual(span_of(lot), rows)
                self.assertIs(is_rooted(lot), True)
                if chain != ["3; 5; 1", "0; 10; 1"]:
                    self.assertEqual([str(one) for one in lot.chain], chain)
                for text in chain:
                    self.assertIn(Stair.read(text), lot)

    def test_long_ratios(self):
        rows = ((ONE, Ratio(LONGEST, LONGEST - 1), Ratio(1, LONGEST)),)
        lot = lot_of_span((3,), rows)
        self.assertEqual((span_of(lot), len(lot), is_rooted(lot)), (rows, 1, True))
        many = lot.leads[(0, 0, 1)]
        self.assertEqual(many % (LONGEST - 1), 0)

    def test_spans_without_rows(self):
        for shape in SHAPES:
            self.assertEqual(span_of(Lot(shape, ())), ())
            self.assertEqual(span_of(Lot(shape, (Stair.one(shape),))), ())
            self.assertIs(is_span(shape, ()), True)
            self.assertEqual(lot_of_span(shape, ()), Lot(shape, ()))
            self.assertEqual(lot_of_span(shape, span_of(Lot.every(shape))), Lot.every(shape))

    def test_is_span(self):
        third = Ratio(1, 3)
        for rows in (((ONE, third, NONE), (NONE, NONE, ONE)), ((ONE, NONE, NONE), (NONE, ONE, NONE), (NONE, NONE, ONE)),
                     ((ONE, Ratio(LONGEST), Ratio(-1, LONGEST)),), ((NONE, NONE, ONE),)):
            self.assertIs(is_span((3,), rows), True)
        for rows in (((ONE, NONE, third), (NONE, ONE, NONE)), ((ONE, ONE, NONE), (NONE, ONE, NONE), (NONE, NONE, ONE)),
                     ((Ratio(2), NONE, NONE),), ((NONE, NONE, NONE),), ((NONE, NONE, ONE), (ONE, NONE, NONE)),
                     ((ONE, NONE, NONE), (ONE, NONE, NONE)), ((ONE, NONE, NONE), (NONE, NONE, NONE)),
                     ((ONE, NONE, ONE), (NONE, NONE, ONE)), [(ONE, NONE, NONE)], ([ONE, NONE, NONE],), (ONE, NONE, NONE),
                     ((ONE, NONE),), ((ONE, NONE, NONE, NONE),), ((1, 0, 0),), ((ONE, NONE, 0),), ((ONE, NONE, None),),
                     ((-ONE, NONE, NONE),), ((ONE, NONE, NONE), ()), ((ONE, NONE, NONE),) * 2):
            self.assertIs(is_span((3,), rows), False, rows)
            self.assertRaises(InvalidSpan, lot_of_span, (3,), rows)
        four = tuple(Ratio(int(at == 0)) for at in range(6)), tuple(Ratio(int(at == 1)) for at in range(6))
        self.assertIs(is_span((4,), four), False)
        self.assertIs(is_span((4,), four + (tuple(Ratio(int(at == 3)) for at in range(6)),)), True)
        for value in VALUES:
            self.assertIs(is_span((4,), value), value == ())
            self.assertIs(is_span((4,), (value,)), False)


class WrongTest(unittest.TestCase):
    def test_lots(self):
        for value in VALUES:
            if not isinstance(value, Lot):
                self.assertRaises(InvalidLot, span_of, value)

    def test_shapes(self):
        for value in VALUES:
            if not is_shape(value):
                self.assertRaises(InvalidShape, is_span, value, ())
                self.assertRaises(InvalidShape, lot_of_span, value, None)

    def test_rows(self):
        for value in VALUES:
            if value not in ((), ((ONE, NONE, HALF),)):
                self.assertRaises(InvalidSpan, lot_of_span, (3,), value)
        self.assertEqual(lot_of_span((3,), ((ONE, NONE, NONE), (NONE, ONE, NONE), (NONE, NONE, ONE))), ALL3)
        self.assertEqual(span_of(Lot((3,), (A * B, C))), ((ONE, ONE, NONE), (NONE, NONE, ONE)))
        self.assertEqual(span_of(Lot((3,), (B,))), ((NONE, ONE, NONE),))


if __name__ == "__main__":
    unittest.main()
