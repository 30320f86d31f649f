"""[0.9], [0.10], [0.13], [2.1], [2.2], [2.3] and the class Stair."""

import random
import unittest

from stairlots.base.shapes import is_shape, places
from stairlots.base.wholes import choose, is_integer
from stairlots.errors import InvalidNumber, InvalidShape, InvalidStair, ParseError, TooMany
from stairlots.lots.lots import Lot
from stairlots.stair.stairs import Stair
from tests.helper import (A, ALL3, B, C, LONGEST, SHAPES, TOO_LONG, VALUES, made_up_stair, product_tables,
                          table_product)


def sample_stairs(seed, most=9):
    """Some stairs of each kind of shape, one among them."""
    source = random.Random(seed)
    return {shape: [Stair.one(shape)] + [made_up_stair(source, shape, most, part) for part in (0.3, 0.6, 1, 1)]
            for shape in SHAPES}


def pairs(seed, most=9):
    """Pairs of stairs of one shape."""
    return [(x, y) for some in sample_stairs(seed, most).values() for x in some for y in some]


class MakingTest(unittest.TestCase):
    def test_examples(self):
        self.assertEqual([str(A * B), str(B * A), A.bracket(B) == C, str(~(A * B)), str((A * B).power(3)),
                          (A * B).numbers, C.lead],
                         ["1 1/1", "1 0/1", True, "-1 0/-1", "3 6/3", (1, 1, 1), (0, 0, 2)])
        four = Stair.read("1 0 2/1 0/1")
        self.assertEqual(
            [four.shape, four.tables, str(four.power(-1)), str(four.led(Stair.single((4,), (0, 0, 1), 5))),
             str(A.beside(Stair.read("7")))],
            [(4,), (((1, 1, 0, 2), (0, 1, 1, 0), (0, 0, 1, 1), (0, 0, 0, 1)),), "-1 1 -3/-1 1/-1", "1 5 2/1 0/1",
             "1 0/0; 7"])
        self.assertEqual(str(Stair.of(((1, 2, 5), (0, 1, 3), (0, 0, 1)), ((1, 7), (0, 1)))), "2 5/3; 7")

    def test_entries(self):
        entries = {(1, 0, 1): 7, (0, 1, 2): 3, (0, 0, 2): 0, (0, 0, 1): -LONGEST}
        stair = Stair((3, 2), entries)
        self.assertEqual(list(stair.entries.items()), [((0, 0, 1), -LONGEST), ((0, 1, 2), 3), ((1, 0, 1), 7)])
        self.assertEqual(list(entries), [(1, 0, 1), (0, 1, 2), (0, 0, 2), (0, 0, 1)])
        self.assertEqual(stair.numbers, (-LONGEST, 3, 7, 0))
        self.assertEqual(stair.shape, (3, 2))
        self.assertEqual(len(stair), 4)

    def test_entries_ascend_as_triples(self):
        stair = Stair((3,), {(0, 1, 2): 1, (0, 0, 2): 1, (0, 0, 1): 1})
        self.assertEqual(list(stair.entries), [(0, 0, 1), (0, 0, 2), (0, 1, 2)])

    def test_no_state_is_shared(self):
        entries = {(0, 0, 1): 1}
        stair = Stair((3,), entries)
        entries[0, 0, 1] = 5
        stair.entries[0, 0, 1] = 6
        stair.entries.clear()
        self.assertEqual(stair, A)

    def test_tables_and_lead(self):
        for shape, some in sample_stairs(1).items():
            for stair in some:
                self.assertEqual(tuple(len(table) for table in stair.tables), shape)
                for block, table in enumerate(stair.tables):
                    for i, row in enumerate(table):
                        for j, number in enumerate(row):
                            wanted = stair.entries.get((block, i, j), 0) if i < j else int(i == j)
                            self.assertEqual(number, wanted)
                leads = [place for place, number in zip(places(shape), stair.numbers) if number]
                self.assertEqual(stair.lead, leads[0] if leads else None)
                self.assertIs(bool(stair), bool(leads))
                self.assertEqual(len(stair), len(places(shape)))
                self.assertEqual(Stair.of(*stair.tables), stair)
                self.assertEqual(Stair(shape, stair.entries), stair)
                self.assertEqual(Stair.read(str(stair)), stair)

    def test_wrong_shapes(self):
        for value in VALUES:
            if not is_shape(value):
                for call in (lambda: Stair(value, None), lambda: Stair.one(value),
                             lambda: Stair.single(value, None, None)):
                    self.assertRaises(InvalidShape, call)

    def test_wrong_entries(self):
        for value in VALUES:
            if not isinstance(value, dict) or value not in ({}, {(0, 0, 1): 1}):
                self.assertRaises(InvalidStair, Stair, (3,), value)
            if not is_integer(value):
                self.assertRaises(InvalidStair, Stair, (3,), {(0, 0, 1): value})
        for place in ((0, 1, 1), (0, 2, 1), (0, 0, 3), (1, 0, 1), (-1, 0, 1), (0, -1, 1), (0, False, 1), (0, 1), None,
                      "(0, 0, 1)", 0, True, (0, 0, 1, 2), ((0, 0, 1),), (10 ** 99, 0, 1)):
            self.assertRaises(InvalidStair, Stair, (3,), {place: 1})
            self.assertRaises(InvalidStair, Stair, (3,), {(0, 1, 2): 2, place: 0})
            self.assertRaises(InvalidStair, Stair.single, (3,), place, None)

    def test_one_and_single(self):
        self.assertEqual(Stair.one((3,)), Stair((3,), {}))
        self.assertEqual(Stair.single((3,), (0, 0, 2), 1), C)
        self.assertEqual(Stair.single((3, 2), (1, 0, 1), -LONGEST).entries, {(1, 0, 1): -LONGEST})
        self.assertEqual(Stair.single((3,), (0, 0, 2), 0), Stair.one((3,)))
        for value in VALUES:
            if not is_integer(value):
                with self.assertRaises(InvalidNumber) as caught:
                    Stair.single((3,), (0, 0, 1), value)
                self.assertIs(caught.exception.given, value)
                if value not in ((0, 0, 1), (0, 1, 2)):
                    self.assertRaises(InvalidStair, Stair.single, (3,), value, value)

    def test_of_wrong_tables(self):
        good = ((1, 0), (0, 1))
        for tables in ((), (good,) * 4, (good, None), (((1,),),), ((),), (((1, 0), (0, True)),), (((1, 0), (0, 2)),),
                       (((1, 0), (1, 1)),), (((1, 0), (0,)),), (((1, 0, 0), (0, 1, 0)),), (((1, 0), [0, 1]),),
                       ([(1, 0), (0, 1)],), (((1, TOO_LONG), (0, 1)),), (((1, False), (0, 1)),), (((1, 2), (0, 0)),),
                       (((1, 0), (False, 1)),), (((1, "2"), (0, 1)),), (((1, 0, 0), (0, 1, 0), (0, 1, 1)),)):
            self.assertRaises(InvalidStair, Stair.of, *tables)
        for value in VALUES:
            if value != good:
                self.assertRaises(InvalidStair, Stair.of, value)
                self.assertRaises(InvalidStair, Stair.of, good, value)
        six = Stair.one((6,)).tables[0]
        self.assertRaises(InvalidStair, Stair.of, six, Stair.one((3,)).tables[0])
        self.assertEqual(Stair.of(six, good), Stair.one((6, 2)))
        seven = tuple(tuple(int(i == j) for j in range(7)) for i in range(7))
        self.assertRaises(InvalidStair, Stair.of, seven)


class ReadTest(unittest.TestCase):
    def test_each_text(self):
        for text, entries in (("0", {}), ("7", {(0, 0, 1): 7}), ("2 5/3", {(0, 0, 1): 2, (0, 0, 2): 5, (0, 1, 2): 3}),
                              ("-4", {(0, 0, 1): -4}), (str(-LONGEST), {(0, 0, 1): -LONGEST})):
            stair = Stair.read(text)
            self.assertEqual((stair.entries, str(stair)), (entries, text))
        self.assertEqual(Stair.read("1; 2; 3").shape, (2, 2, 2))

    def test_other_values(self):
        texts = ("", " ", "1 0", "1/0", "1 0/0/0", "1 0/0 0", "1  0/0", " 1 0/0", "1 0/0 ", "1 0 /0", "1 0/ 0", "1 0/0;",
                 "1 0/0;7", "1 0/0; ", "1 0/0;  7", "1; 2; 3; 4", "01", "+1", "-0", "1.0", "a", "1_0", "1\n", "\n1",
                 str(TOO_LONG), str(-TOO_LONG), f"1 0/{TOO_LONG}", "0 0 0 0 0/0 0 0 0/0 0 0/0 0/0; 0 0/0",
                 "0 0 0 0 0 0/0 0 0 0 0/0 0 0 0/0 0 0/0 0/0", "1,0/0", "1 0/0; 7;", "; 7", "/", "--1", "1 0\n0")
        for value in texts + tuple(value for value in VALUES if value not in ("1", "1 0/0")):
            with self.assertRaises(ParseError) as caught:
                Stair.read(value)
            self.assertEqual(caught.exception.spot, 0)


class ProductTest(unittest.TestCase):
    def test_products_are_those_of_the_tables(self):
        for x, y in pairs(2) + pairs(3, LONGEST):
            self.assertEqual((x * y).tables, product_tables(x, y))
            self.assertEqual((x * y).shape, x.shape)

    def test_undoing(self):
        for some in sample_stairs(4).values():
            for x in some:
                self.assertEqual(x * ~x, Stair.one(x.shape))
                self.assertEqual(~x * x, Stair.one(x.shape))

    def test_0_10_leads_of_products(self):
        for x, y in pairs(5):
            for at, place in enumerate(places(x.shape)):
                if not any(x.numbers[:at]) and not any(y.numbers[:at]):
                    self.assertEqual((x * y).numbers[at], x.numbers[at] + y.numbers[at])

    def test_2_1_grouping_and_powers(self):
        for some in sample_stairs(6).values():
            x, y, z = some[1:4]
            self.assertEqual((x * y) * z, x * (y * z))
            for a in (-3, 0, 1, 4):
                for b in (-5, 2, 7):
                    self.assertEqual(x.power(a) * x.power(b), x.power(a + b))
            repeated = Stair.one(x.shape)
            for number in range(6):
                self.assertEqual(x.power(number), repeated)
                self.assertEqual(x.power(-number), ~repeated)
                repeated = repeated * x

    def test_2_1_powers_by_choose(self):
        for some in sample_stairs(7).values():
            for stair in some:
                for number in (-LONGEST, -4, 0, 3, LONGEST):
                    self.assertEqual(stair.power(number).tables, tuple(power_by_choose(one, number) for one in stair.tables))

    def test_powers_of_wrong_numbers(self):
        for value in VALUES:
            if not is_integer(value):
                with self.assertRaises(InvalidNumber) as caught:
                    A.power(value)
                self.assertIs(caught.exception.given, value)

    def test_results_can_be_long_and_be_passed_on(self):
        x = A.power(LONGEST) * B.power(LONGEST)
        self.assertEqual(x.entries[0, 0, 2], LONGEST ** 2)
        self.assertEqual(x.power(2).lead, (0, 0, 1))
        self.assertEqual(x * ~x, Stair.one((3,)))
        self.assertEqual(x.bracket(x), Stair.one((3,)))
        self.assertRaises(InvalidStair, Stair, (3,), x.entries)
        self.assertRaises(ParseError, Stair.read, str(x))
        self.assertRaises(InvalidStair, Stair.of, *x.tables)

    def test_operands(self):
        for value in VALUES:
            if isinstance(value, Stair):
                continue
            self.assertRaises(TypeError, lambda: A * value)
            self.assertRaises(TypeError, lambda: value * A)
        for other in (Stair.one((2,)), Stair.one((2, 3)), Stair.one((3, 2))):
            self.assertRaises(InvalidStair, lambda: A * other)
            self.assertRaises(InvalidStair, lambda: other * A)
        self.assertRaises(TypeError, lambda: A ** 2)


def power_by_choose(table, number):
    """The table of a power, by the powers of the part beside the ones."""
    size = len(table)
    part = tuple(tuple(entry if i < j else 0 for j, entry in enumerate(row)) for i, row in enumerate(table))
    found = [[int(i == j) for j in range(size)] for i in range(size)]
    power = part
    for k in range(1, size):
        for i in range(size):
            for j in range(size):
                found[i][j] += choose(number, k) * power[i][j]
        power = table_product(power, part)
    return tuple(tuple(row) for row in found)


class BracketTest(unittest.TestCase):
    def test_0_13_by_definition(self):
        for x, y in pairs(8):
            self.assertEqual(x.bracket(y), x * y * ~x * ~y)
            self.assertEqual(x.led(y), y * x * ~y)
            self.assertEqual(y * x, x.led(y) * y)

    def test_2_2_distances(self):
        for x, y in pairs(9):
            a, b = nearest(x), nearest(y)
            entries = x.bracket(y).entries
            there, back = (x * y).entries, (y * x).entries
            for place in places(x.shape):
                distance = place[2] - place[1]
                if distance < max(2, a + b):
                    self.assertNotIn(place, entries)
                if distance == a + b:
                    self.assertEqual(entries.get(place, 0), there.get(place, 0) - back.get(place, 0))

    def test_2_3_leading(self):
        for some in sample_stairs(10).values():
            x, y, u, v = some[1:]
            self.assertEqual(x.led(u).led(v), x.led(v * u))
            self.assertEqual((x * y).led(u), x.led(u) * y.led(u))

    def test_wrong_stairs(self):
        for value in VALUES:
            if not isinstance(value, Stair) or value.shape != (3,):
                self.assertRaises(InvalidStair, A.bracket, value)
                self.assertRaises(InvalidStair, A.led, value)


def nearest(stair):
    """The least distance at which an entry is not 0, or some greater one."""
    return min([column - row for _, row, column in stair.entries] + [9])


class BlockTest(unittest.TestCase):
    def test_blocks(self):
        for some in sample_stairs(11).values():
            for stair in some:
                blocks = [stair.block(index) for index in range(len(stair.shape))]
                self.assertEqual([block.tables[0] for block in blocks], list(stair.tables))
                self.assertEqual([block.shape for block in blocks], [(size,) for size in stair.shape])
                joined = blocks[0]
                for block in blocks[1:]:
                    joined = joined.beside(block)
                self.assertEqual(joined, stair)

    def test_beside_takes_all_blocks(self):
        x, y = Stair.read("1 2/3; 4"), Stair.read("5 6/7")
        self.assertEqual(str(x.beside(y)), "1 2/3; 4; 5 6/7")
        self.assertEqual(str(y.beside(x)), "5 6/7; 1 2/3; 4")
        long = A.power(LONGEST) * B.power(LONGEST)
        self.assertEqual(long.beside(y).block(0), long)

    def test_wrong_indices(self):
        stair = Stair.one((3, 2))
        for value in VALUES:
            if value not in (0, 1) or isinstance(value, bool):
                with self.assertRaises(InvalidNumber) as caught:
                    stair.block(value)
                self.assertIs(caught.exception.given, value)

    def test_wrong_neighbours(self):
        for value in VALUES:
            if not isinstance(value, Stair):
                self.assertRaises(InvalidStair, A.beside, value)
                self.assertRaises(InvalidStair, Stair.one((6,)).beside, value)
        for one, other in (((6,), (3,)), ((2, 2), (2, 2)), ((4, 4), (2,)), ((2, 2, 2), (2,)), ((3,), (6,))):
            with self.assertRaises(TooMany) as caught:
                Stair.one(one).beside(Stair.one(other))
            self.assertEqual(caught.exception.most, 8)
        self.assertEqual(Stair.one((6,)).beside(Stair.one((2,))), Stair.one((6, 2)))
        self.assertEqual(Stair.one((2, 2)).beside(Stair.one((4,))), Stair.one((2, 2, 4)))


class ValueTest(unittest.TestCase):
    def test_equality(self):
        self.assertTrue(A == Stair((3,), {(0, 0, 1): 1}))
        self.assertFalse(A != Stair((3,), {(0, 0, 1): 1, (0, 0, 2): 0}))
        self.assertFalse(A == B)
        self.assertFalse(Stair.one((2, 3)) == Stair.one((3, 2)))
        for value in VALUES:
            if not isinstance(value, Stair):
                self.assertFalse(A == value)
                self.assertTrue(A != value)
                self.assertFalse(value == A)

    def test_it_never_changes(self):
        for name in ("shape", "entries", "numbers", "tables", "lead"):
            with self.assertRaises(AttributeError):
                setattr(A, name, None)

    def test_it_is_not_iterated(self):
        self.assertRaises(TypeError, iter, A)
        self.assertRaises(TypeError, list, A)
        self.assertRaises(TypeError, lambda: 1 in A)

    def test_bool_and_len(self):
        self.assertIs(bool(Stair.one((3,))), False)
        self.assertIs(bool(C), True)
        self.assertEqual([len(Stair.one(shape)) for shape in ((2,), (6, 2), (2, 2, 2))], [1, 16, 3])

    def test_lots_of_the_examples(self):
        self.assertEqual(Lot.every((3,)), ALL3)


if __name__ == "__main__":
    unittest.main()
