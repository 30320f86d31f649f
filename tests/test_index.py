"""[15.1] to [15.8], [0.20] and the functions of lots of an index."""

import itertools
import math
import random
import unittest

from stairlots.errors import InvalidLot, InvalidNumber, InvalidOperation, TooMany
from stairlots.index import lots
from stairlots.index.lots import (classes_of_index, count_candidates, count_of_index, is_table, lot_of_table, lots_of_index,
                                  meet_of_index, normal_of_index, table_in, three_lots, three_normal)
from stairlots.lots.lots import Lot
from stairlots.normal.normals import is_normal
from stairlots.shadow.shadows import Shadow
from stairlots.stair.stairs import Stair
from stairlots.way.sides import common
from tests.helper import (A, ALL3, B, C, EVEN, LONGEST, SHAPES, TOO_LONG, VALUES, made_up_lot, made_up_member, sample_lots,
                          wrong_lots)

FLAT = Lot((2, 2), (Stair.read("2; 1"), Stair.read("0; 3")))
SLANT3 = Lot((3,), (A * B.power(2), C.power(3)))
LONG3 = Lot((3,), (A.power(LONGEST) * C, B.power(LONGEST - 1), C.power(LONGEST // 3)))


def lots_of_all_kinds(seed):
    """Lots with no chain members and with up to six."""
    source = random.Random(seed)
    found = [Lot((3,), ()), Lot((2,), (Stair.read("-6"),)), FLAT, SLANT3, EVEN, ALL3, LONG3, Lot.every((2, 3)), Lot.every((4,)),
             Lot.every((2, 2, 2)), Lot((4,), Lot.every((4,)).chain[1:])]
    for shape in SHAPES[1:7]:
        found.append(made_up_lot(source, shape, 3, 2, 0.3))
    return [lot for lot in found if len(lot) <= 6]


def joined(lot, stairs):
    """The lot that any number of stairs make."""
    found = Lot(lot.shape, ())
    for at in range(0, len(stairs), 6):
        found = found | Lot(lot.shape, tuple(stairs[at:at + 6]))
    return found


def member(lot, exponents):
    """The member with exponents of any length."""
    found = Stair.one(lot.shape)
    for stair, number in zip(lot.chain, exponents):
        found = found * stair.power(number)
    return found


def leads_with_product(many, number):
    """All tuples of so many leads with this product."""
    if many == 0:
        return [()] if number == 1 else []
    return [(lead,) + rest for lead in range(1, number + 1) if number % lead == 0
            for rest in leads_with_product(many - 1, number // lead)]


def candidates(many, number):
    """[15.2], word by word: all candidates with so many rows for an index."""
    for leads in leads_with_product(many, number):
        choices = [[(0,) * i + (leads[i],) + rest for rest in itertools.product(*[range(lead) for lead in leads[i + 1:]])]
                   for i in range(many)]
        yield from itertools.product(*choices)


def stairs_of(lot, table):
    """The stairs of the rows of a table."""
    return [member(lot, row) for row in table]


def is_closed(lot, table):
    """[15.3], word by word."""
    stairs = stairs_of(lot, table)
    return all(stairs[i].bracket(stairs[j]) in joined(lot, stairs[i + 1:])
               for i in range(len(stairs)) for j in range(i + 1, len(stairs)))


def moved(lot, inner, stair):
    """The lot into which a stair leads an inner lot."""
    return joined(lot, [one.led(stair) for one in inner.chain])


class ExampleTest(unittest.TestCase):
    def test_document(self):
        self.assertEqual([table_in(ALL3, lot) for lot in lots_of_index(ALL3, 2)],
                         [((1, 0, 0), (0, 2, 0), (0, 0, 1)), ((1, 1, 0), (0, 2, 0), (0, 0, 1)),
                          ((2, 0, 0), (0, 1, 0), (0, 0, 1))])
        self.assertEqual([count_candidates(ALL3, 4), count_of_index(ALL3, 4), len(normal_of_index(ALL3, 4)),
                          len(classes_of_index(ALL3, 4))], [35, 19, 7, 13])
        self.assertEqual([three_lots(4), three_normal(4), three_lots(3), three_lots(12), three_normal(10 ** 6)],
                         [19, 7, 4, 76, 4883368])
        self.assertEqual(([str(one) for one in meet_of_index(ALL3, 2).chain], is_table(ALL3, ((1, 0, 0), (0, 1, 0), (0, 0, 2)))),
                         (["2 0/0", "0 0/2", "0 1/0"], False))
        self.assertEqual((lots.MAX_INDEX, lots.MAX_CANDIDATES), (10 ** 6, 20000))


class TableTest(unittest.TestCase):
    def test_15_1_tables(self):
        for lot in lots_of_all_kinds(1) + sample_lots(2, 3, 1, SHAPES[:9]):
            source = random.Random(1)
            for _ in range(3):
                makers = [one.power(source.choice((1, 1, 2, 3, 4))) * made_up_member(source, joined(lot, lot.chain[at + 1:]), 2)
                          for at, one in enumerate(lot.chain)]
                inner = joined(lot, makers)
                table = table_in(lot, inner)
                many = len(lot.chain)
                self.assertEqual([len(row) for row in table], [many] * many)
                leads = [row[at] for at, row in enumerate(table)]
                self.assertEqual(math.prod(leads), inner.index_in(lot))
                for i, row in enumerate(table):
                    self.assertFalse(any(row[:i]))
                    self.assertGreaterEqual(row[i], 1)
                    self.assertTrue(all(0 <= row[j] < leads[j] for j in range(i + 1, many)))
                    self.assertIn(member(lot, row), inner)
                self.assertEqual(joined(lot, stairs_of(lot, table)), inner)
                self.assertIs(is_table(lot, table), True)
                made = lot_of_table(lot, table)
                self.assertEqual((made, made.makers), (inner, made.chain))

    def test_the_lot_itself_and_none(self):
        for lot in lots_of_all_kinds(3):
            many = len(lot.chain)
            unit = tuple(tuple(int(i == j) for j in range(many)) for i in range(many))
            self.assertEqual(table_in(lot, lot), unit)
            self.assertEqual(lot_of_table(lot, unit), lot)
            self.assertEqual(lots_of_index(lot, 1), (lot,))
            self.assertEqual(lots_of_index(lot, 1)[0].makers, lot.chain)
        none = Lot((4,), ())
        self.assertEqual((table_in(none, none), lot_of_table(none, ()), is_table(none, ())), ((), none, True))

    def test_long_leads(self):
        every = Lot.every((3,))
        inner = Lot((3,), (A.power(LONGEST), B.power(LONGEST), C.power(LONGEST)))
        table = ((LONGEST, 0, 0), (0, LONGEST, 0), (0, 0, LONGEST))
        self.assertEqual(table_in(every, inner), table)
        self.assertEqual(lot_of_table(every, table), inner)
        far = ((TOO_LONG, 0, 0), (0, TOO_LONG, 0), (0, 0, TOO_LONG))
        self.assertIs(is_table(every, far), True)
        self.assertRaises(InvalidOperation, lot_of_table, every, far)
        self.assertIs(is_table(every, ((10 ** 99, 0, 0), (0, 1, 0), (0, 0, 10 ** 99))), True)
        self.assertIs(is_table(every, ((10 ** 99, 0, 0), (0, 2, 0), (0, 0, 10 ** 99))), True)
        self.assertIs(is_table(every, ((10 ** 99, 0, 0), (0, 1, 0), (0, 0, 3 * 10 ** 99))), False)
        self.assertRaises(InvalidOperation, lot_of_table, every, ((1, 0, 0), (0, 1, 0), (0, 0, TOO_LONG)))

    def test_is_table_of_all_candidates(self):
        found = {True: 0, False: 0}
        for lot in (ALL3, EVEN, SLANT3, FLAT, Lot((4,), Lot.every((4,)).chain[2:]), Lot((3,), (A * C, B * B * C, C.power(2)))):
            for number in (2, 3, 4, 6):
                for table in candidates(len(lot), number):
                    wanted = is_closed(lot, table)
                    found[wanted] += 1
                    self.assertIs(is_table(lot, table), wanted, table)
                    if wanted:
                        self.assertEqual(table_in(lot, lot_of_table(lot, table)), table)
                    else:
                        self.assertRaises(InvalidOperation, lot_of_table, lot, table)
        self.assertGreater(min(found.values()), 100)

    def test_what_is_no_table(self):
        good = ((1, 1, 0), (0, 2, 0), (0, 0, 1))
        self.assertIs(is_table(ALL3, good), True)
        wrong = [list(good), ([1, 1, 0],) + good[1:], good[:2], good + ((0, 0, 0),), good[0], ((1, 1),) + good[1:],
                 ((1, 1, 0, 0),) + good[1:], ((1, 2, 0),) + good[1:], ((1, -1, 0),) + good[1:], ((1, 1, 1),) + good[1:],
                 (good[0], (1, 2, 0), good[2]), (good[0], (0, 2, 1), good[2]), ((0, 1, 0),) + good[1:],
                 ((-1, 1, 0),) + good[1:], (good[0], (0, 0, 0), good[2]), (good[0], (0, -2, 0), good[2]),
                 ((True, 1, 0),) + good[1:], ((1, True, 0),) + good[1:], ((1, 1, False),) + good[1:], good[:2] + ((0, 0, True),),
                 (("1", 1, 0),) + good[1:], ((1, None, 0),) + good[1:], {0: good[0], 1: good[1], 2: good[2]}, None]
        for value in list(VALUES) + wrong:
            self.assertIs(is_table(ALL3, value), False, repr(value))
            self.assertIs(is_table(ALL3, (value,) + good[1:]), value == good[0])
            self.assertIs(is_table(ALL3, good[:2] + (value,)), value == good[2])
            self.assertRaises(InvalidOperation, lot_of_table, ALL3, value)
            if value != ():
                self.assertIs(is_table(Lot((3,), ()), value), False)

    def test_inner_lots(self):
        for lot, inner in ((EVEN, ALL3), (EVEN, Lot((3,), (A, B.power(2)))), (ALL3, Lot((3,), (A,))), (ALL3, Lot((3,), ())),
                           (Lot((3,), (A, C)), Lot((3,), (A * B, C))), (Lot((3,), (C,)), Lot((3,), (A,)))):
            self.assertRaises(InvalidOperation, table_in, lot, inner)


class ListTest(unittest.TestCase):
    def test_15_3_all_lots_of_an_index(self):
        for lot in lots_of_all_kinds(4):
            for number in (1, 2, 3, 4, 5, 6, 8, 9):
                if count_candidates(lot, number) > 300:
                    continue
                tables = [table for table in candidates(len(lot), number) if is_closed(lot, table)]
                inner = lots_of_index(lot, number)
                self.assertEqual([table_in(lot, one) for one in inner], sorted(tables))
                self.assertEqual(count_of_index(lot, number), len(tables))
                self.assertEqual(inner, tuple(lot_of_table(lot, table) for table in sorted(tables)))
                for one in inner:
                    self.assertEqual((one.index_in(lot), one.makers), (number, one.chain))

    def test_15_2_numbers_of_candidates(self):
        for many in range(6):
            lot = Lot.every((4,))
            lot = Lot((4,), lot.chain[6 - many:])
            self.assertEqual(len(lot), many)
            for number in (1, 2, 3, 4, 5, 6, 8, 12, 16, 30):
                wanted = sum(math.prod(lead ** at for at, lead in enumerate(leads)) for leads in leads_with_product(many, number))
                self.assertEqual(count_candidates(lot, number), wanted)
                if wanted < 300:
                    self.assertEqual(len(list(candidates(many, number))), wanted)
        every = Lot.every((6, 2))
        self.assertEqual(count_candidates(every, 2), 2 ** 16 - 1)
        self.assertEqual(count_candidates(every, 999983), (999983 ** 16 - 1) // 999982)
        self.assertEqual(count_candidates(Lot((2,), ()), 10 ** 6), 0)
        self.assertEqual(count_candidates(Lot.every((2,)), 10 ** 6), 1)

    def test_numbers_of_lots_by_permutations(self):
        # A lot of index n is told by what the members do to the n classes of members that it parts: by permutations
        # that do what the brackets of the chain members tell, and bring one class to all others.
        for lot in (ALL3, EVEN, FLAT, Lot((4,), Lot.every((4,)).chain[2:]), Lot.every((2, 3)), Lot.every((4,))):
            for many in (2, 3, 4):
                if math.factorial(many) ** len(lot) > 50000:
                    continue
                ways = list(permutations_of(lot, many))
                self.assertEqual(count_of_index(lot, many) * math.factorial(many - 1), len(ways))
                normal = [way for way in ways if len(group_of(way)) == many]
                self.assertEqual(len(normal_of_index(lot, many)) * math.factorial(many - 1), len(normal))

    def test_twenty_thousand_candidates_and_more(self):
        # With two rows there are as many candidates as the sum of the divisors tells; there is no number with 20001.
        flat = Lot((2, 2, 2), (Stair.read("1; 0; 0"), Stair.read("0; 1; 0")))
        self.assertEqual([count_candidates(flat, number) for number in (13473, 14997, 19991, 20011, 9720)],
                         [20000, 20000, 19992, 20012, 32760])
        for number in (13473, 14997):
            self.assertEqual(len(lots_of_index(flat, number)), 20000)
            self.assertEqual(count_of_index(flat, number), 20000)
        self.assertEqual(len(normal_of_index(flat, 13473)), 20000)
        self.assertEqual(len(classes_of_index(flat, 13473)), 20000)
        self.assertEqual(meet_of_index(flat, 13473).leads, {(0, 0, 1): 13473, (1, 0, 1): 13473})
        for call in (lots_of_index, count_of_index, normal_of_index, classes_of_index, meet_of_index):
            for lot, number in ((flat, 20011), (flat, 9720), (ALL3, 72), (Lot.every((6, 2)), 2), (flat, 10 ** 6)):
                with self.assertRaises(TooMany) as caught:
                    call(lot, number)
                self.assertEqual(caught.exception.most, 20000)
        self.assertEqual([count_of_index(Lot.every((2,)), number) for number in (1, 7, 10 ** 6)], [1, 1, 1])
        self.assertEqual((count_candidates(Lot.every((4,)), 7), count_of_index(Lot.every((4,)), 7)), (19608, 57))

    def test_lots_without_makers(self):
        for shape in SHAPES:
            none = Lot(shape, ())
            self.assertEqual((lots_of_index(none, 1), classes_of_index(none, 1), normal_of_index(none, 1), meet_of_index(none, 1)),
                             ((none,), ((none,),), (none,), none))
            for number in (2, 10 ** 6):
                self.assertEqual((count_of_index(none, number), lots_of_index(none, number), normal_of_index(none, number),
                                  classes_of_index(none, number), meet_of_index(none, number)), (0, (), (), (), None))

    def test_15_4_powers(self):
        for lot, number in ((ALL3, 4), (EVEN, 4), (ALL3, 6), (Lot.every((4,)), 2), (Lot((4,), Lot.every((4,)).chain[1:]), 3)):
            source = random.Random(5)
            for inner in lots_of_index(lot, number):
                self.assertIn(made_up_member(source, lot).power(number), inner)
        for number in (2, 3, 4, 6):
            for inner in lots_of_index(ALL3, number):
                for numbers in itertools.product((0, 1, -1, 2), repeat=3):
                    stair = Stair((3,), {place: number * one for place, one in
                                         zip(((0, 0, 1), (0, 1, 2), (0, 0, 2)), numbers)})
                    self.assertIn(stair, inner)
            shadows = [Shadow(inner, number) for inner in lots_of_index(ALL3, number)]
            self.assertTrue(all(one != other for one, other in itertools.combinations(shadows, 2)))
        # Within other lots this is false.
        every = Lot((2, 2), (Stair.read("1; 1"), Stair.read("0; 2")))
        inner = Lot((2, 2), (Stair.read("2; 2"), Stair.read("0; 2")))
        self.assertEqual(inner.index_in(every), 2)
        outside = Lot((2, 2), (Stair.read("1; 1"), Stair.read("0; 4")))
        self.assertEqual(outside.index_in(every), 2)
        self.assertIn(Stair.read("0; 2"), every)
        self.assertNotIn(Stair.read("0; 2"), outside)

    def test_15_5_indices_without_a_common_divisor(self):
        for lot, a, b in ((ALL3, 2, 3), (ALL3, 4, 3), (EVEN, 2, 5), (Lot.every((2, 3)), 2, 3), (FLAT, 8, 9)):
            first, second = lots_of_index(lot, a), lots_of_index(lot, b)
            found = [common(one, other) for one in first for other in second]
            inner = lots_of_index(lot, a * b)
            self.assertEqual(len(found), len(inner))
            self.assertTrue(all(one in inner for one in found))
            self.assertEqual(len({table_in(lot, one) for one in found}), len(inner))
            for call in (normal_of_index, classes_of_index):
                self.assertEqual(len(call(lot, a * b)), len(call(lot, a)) * len(call(lot, b)))

    def test_15_7_three(self):
        for number in range(1, 40):
            self.assertEqual(three_lots(number), sum(
                d2 * d3 * d3 for d1, d2, d3 in leads_with_product(3, number) if d1 * d2 % d3 == 0))
            self.assertEqual(three_normal(number), sum(
                d2 * d3 for d1, d2, d3 in leads_with_product(3, number) if d1 % d3 == 0 and d2 % d3 == 0))
            if number < 17:
                self.assertEqual(three_lots(number), count_of_index(ALL3, number))
                self.assertEqual(three_normal(number), len(normal_of_index(ALL3, number)))
        self.assertEqual((three_lots(1), three_normal(1), three_lots(999983), three_normal(999983)), (1, 1, 999984, 999984))
        self.assertEqual(three_lots(64), count_of_index(Lot((3,), (A * C, B)), 64))


def permutations_of(lot, many):
    """All tuples of permutations of so many things that the chain members can do, one thing being brought to all."""
    every = list(itertools.permutations(range(many)))
    brackets = {(i, j): lot.exponents(lot.chain[i].bracket(lot.chain[j]))
                for i, j in itertools.combinations(range(len(lot)), 2)}
    for way in itertools.product(every, repeat=len(lot)):
        if all(bracket(way[i], way[j]) == powers(way, many, told) for (i, j), told in brackets.items()):
            reached, fresh = {0}, [0]
            while fresh:
                at = fresh.pop()
                for one in way:
                    if one[at] not in reached:
                        reached.add(one[at])
                        fresh.append(one[at])
            if len(reached) == many:
                yield way


def after(one, other):
    """One permutation after another one."""
    return tuple(one[at] for at in other)


def back(one):
    """What undoes a permutation."""
    return tuple(one.index(at) for at in range(len(one)))


def bracket(one, other):
    """The bracket of two permutations."""
    return after(after(one, other), after(back(one), back(other)))


def powers(way, many, exponents):
    """The product of powers of permutations."""
    found = tuple(range(many))
    for one, number in zip(way, exponents):
        for _ in range(abs(number)):
            found = after(found, one if number > 0 else back(one))
    return found


def group_of(way):
    """All that comes of some permutations."""
    found = {tuple(range(len(way[0])))}
    fresh = list(found)
    while fresh:
        at = fresh.pop()
        for one in way:
            made = after(one, at)
            if made not in found:
                found.add(made)
                fresh.append(made)
    return found


class ClassTest(unittest.TestCase):
    cases = ((ALL3, 2), (ALL3, 4), (ALL3, 6), (ALL3, 8), (ALL3, 9), (EVEN, 4), (EVEN, 8), (SLANT3, 6), (FLAT, 4),
             (Lot.every((4,)), 2), (Lot.every((4,)), 3), (Lot.every((4,)), 4), (Lot.every((2, 3)), 4),
             (Lot((3,), (A * C, B.power(2), C)), 8), (LONG3, 4))

    def test_15_6_normal_lots(self):
        for lot, number in self.cases:
            inner = lots_of_index(lot, number)
            self.assertEqual(normal_of_index(lot, number), tuple(one for one in inner if is_normal(lot, one)))
            for one in inner[:10]:
                kept = all(moved(lot, one, stair) == one for stair in lot.chain)
                self.assertIs(one in normal_of_index(lot, number), kept)

    def test_15_6_classes(self):
        for lot, number in self.cases:
            inner = lots_of_index(lot, number)
            classes = classes_of_index(lot, number)
            self.assertIsInstance(classes, tuple)
            order = {table_in(lot, one): at for at, one in enumerate(inner)}
            numbers = [[order[table_in(lot, one)] for one in part] for part in classes]
            self.assertEqual(sorted(at for part in numbers for at in part), list(range(len(inner))))
            self.assertTrue(all(part == sorted(part) for part in numbers))
            self.assertEqual([part[0] for part in numbers], sorted(part[0] for part in numbers))
            for part in classes:
                self.assertIsInstance(part, tuple)
                self.assertEqual(number % len(part), 0)
                self.assertIs(len(part) == 1, is_normal(lot, part[0]))
                # What the chain members make of the lots of a class is this class.
                keys = {table_in(lot, one) for one in part}
                for stair in lot.chain:
                    self.assertEqual({table_in(lot, moved(lot, one, stair)) for one in part}, keys)

    def test_15_6_all_that_some_stair_leads_there(self):
        for lot, number in ((ALL3, 4), (EVEN, 4), (ALL3, 6), (ALL3, 8)):
            for part in classes_of_index(lot, number):
                # The n-th powers of members keep the lot, and the last chain member commutes with all.
                movers = [lot.member(exponents + (0,)) for exponents in itertools.product(range(number), repeat=2)]
                reached = {table_in(lot, moved(lot, part[0], stair)) for stair in movers}
                self.assertEqual(reached, {table_in(lot, one) for one in part})


class MeetTest(unittest.TestCase):
    def test_common_parts(self):
        for lot, number in ClassTest.cases + ((FLAT, 6), (Lot.every((2, 2, 2)), 12), (Lot.every((2,)), 1000)):
            wanted = None
            for one in lots_of_index(lot, number):
                wanted = one if wanted is None else wanted & one
            meet = meet_of_index(lot, number)
            self.assertEqual((meet, meet.makers), (wanted, meet.chain))
            self.assertIs(is_normal(lot, meet), True)

    def test_15_8_what_is_not_true(self):
        # Lots of a prime index are normal only if the prime is 2: here all lots of a prime index are.
        for prime in (2, 3, 5):
            self.assertEqual(normal_of_index(ALL3, prime), lots_of_index(ALL3, prime))
        # The common part of two lots of the index n has the index n * n.
        self.assertEqual(sorted({(one & other).index_in(ALL3) for one in lots_of_index(ALL3, 4) for other in lots_of_index(ALL3, 4)
                                 if one != other}), [8, 16])
        # Each lot that contains all n-th powers has the index n.
        self.assertEqual(Lot((3,), (A.power(2), B.power(2), C)).index_in(ALL3), 4)
        self.assertTrue(all(stair.power(2) in Lot((3,), (A.power(2), B.power(2), C)) for stair in (A, B, A * B, A * C)))
        # Inner lots with equal leads are in one class.
        classes = classes_of_index(ALL3, 2)
        leads = [part[0].leads for part in classes]
        self.assertLess(len({str(one) for one in leads}), len(leads))


class WrongTest(unittest.TestCase):
    numbered = (count_candidates, lots_of_index, count_of_index, normal_of_index, classes_of_index, meet_of_index)

    def test_lots(self):
        for value in VALUES:
            if not isinstance(value, Lot):
                for call in self.numbered + (table_in, lot_of_table, is_table):
                    self.assertRaises(InvalidLot, call, value, None)
        for value in wrong_lots((3,)):
            self.assertRaises(InvalidLot, table_in, ALL3, value)

    def test_numbers(self):
        for value in VALUES + (10 ** 6 + 1, -1):
            if isinstance(value, int) and not isinstance(value, bool) and 1 <= value <= 10 ** 6:
                continue
            for call in self.numbered:
                with self.assertRaises(InvalidNumber) as caught:
                    call(ALL3, value)
                self.assertIs(caught.exception.given, value)
            for call in (three_lots, three_normal):
                with self.assertRaises(InvalidNumber) as caught:
                    call(value)
                self.assertIs(caught.exception.given, value)

    def test_lots_of_lots(self):
        for call in self.numbered:
            self.assertRaises(InvalidLot, call, (ALL3,), 0)


if __name__ == "__main__":
    unittest.main()
