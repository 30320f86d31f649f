"""[0.11], [0.12], [0.20], [0.21], [3.1] to [3.4] and the class Lot."""

import math
import random
import unittest

from stairlots.base.shapes import is_shape, places
from stairlots.base.wholes import is_integer
from stairlots.errors import InvalidLot, InvalidOperation, InvalidShape, InvalidStair
from stairlots.lots import lots
from stairlots.lots.lots import Lot
from stairlots.stair.stairs import Stair
from tests.helper import (A, ALL3, B, C, EVEN, LONGEST, SHAPES, SLANT, T, TOO_LONG, U, VALUES, made_up_lot,
                          made_up_member, made_up_stair, rest_of, sample_lots, shadow_by_search)

SINGLE = Stair.single((2,), (0, 0, 1), 1)


def divided_by_chain(lot, stair):
    """The exponents by which a stair is a product of powers of chain members, or None; by stairs alone."""
    found = []
    for one in lot.chain:
        ahead = places(lot.shape)[:places(lot.shape).index(one.lead)]
        if any(stair.entries.get(place, 0) for place in ahead):
            return None
        many, left = divmod(stair.entries.get(one.lead, 0), one.entries[one.lead])
        if left:
            return None
        found.append(many)
        stair = repeated(~one, many) * stair
    return None if stair else tuple(found)


def repeated(stair, many):
    """A power for any exponent, also a long one."""
    if is_integer(many):
        return stair.power(many)
    if many < 0:
        return repeated(~stair, -many)
    found = Stair.one(stair.shape)
    for digit in bin(many)[2:]:
        found = found * found
        if digit == "1":
            found = found * stair
    return found


class ExampleTest(unittest.TestCase):
    def test_constant(self):
        self.assertEqual(lots.MAX_MAKERS, 6)

    def test_document(self):
        self.assertEqual(
            ([str(one) for one in EVEN], EVEN.leads, str(EVEN), EVEN.index_in(ALL3), ALL3 == Lot.every((3,))),
            (["2 0/0", "0 0/1", "0 2/0"], {(0, 0, 1): 2, (0, 1, 2): 1, (0, 0, 2): 2}, "lot of 3 in (3,)", 4, True))
        self.assertEqual([EVEN.exponents(B * A.power(2)), str(EVEN.member((1, 0, 2))), C in EVEN,
                          EVEN.is_within(ALL3), ALL3.is_within(EVEN)],
                         [(1, 1, -1), "2 4/0", False, True, False])
        one, other = Lot((3,), (A * B, C)), Lot((3,), (A, C))
        self.assertEqual([one.leads == other.leads, one == other, str(one.chain[0]), one.index_in(ALL3)],
                         [True, False, "1 0/1", None])
        self.assertEqual([(Lot((3,), (A.power(2), B.power(3))) | Lot((3,), (A.power(3),))).leads, len(EVEN & one),
                          str((EVEN & one).chain[0])],
                         [{(0, 0, 1): 1, (0, 1, 2): 3, (0, 0, 2): 3}, 2, "2 0/2"])
        self.assertRaises(InvalidOperation, EVEN.exponents, C)

    def test_examples_of_the_document(self):
        self.assertEqual(A.bracket(B), C)
        self.assertEqual([str(stair) for stair in (A, B, C, T, U)], ["1 0/0", "0 0/1", "0 1/0", "4 1/0", "4 0/0"])
        self.assertEqual(tuple(EVEN.leads.values()), (2, 1, 2))


class ChainTest(unittest.TestCase):
    def test_3_1_chains_are_closed_and_least(self):
        for lot in sample_lots(1) + sample_lots(2, LONGEST, 1, ((3,), (4,), (2, 3), (2, 2, 2))) + sample_lots(3, 1, 2):
            order = places(lot.shape)
            at = [order.index(one.lead) for one in lot.chain]
            self.assertEqual(at, sorted(set(at)))
            self.assertEqual(list(lot.leads.items()), [(one.lead, one.entries[one.lead]) for one in lot.chain])
            self.assertTrue(all(lead > 0 for lead in lot.leads.values()))
            for maker in lot.makers:
                self.assertIsNotNone(divided_by_chain(lot, maker))
            for index, one in enumerate(lot.chain):
                for other in lot.chain[index + 1:]:
                    self.assertIsNotNone(divided_by_chain(lot, one.bracket(other)))
                    self.assertIn(one.entries.get(other.lead, 0), range(lot.leads[other.lead]))

    def test_chain_members_are_made_by_the_makers(self):
        # Modulo small integers: a chain with too many members, or with too small leads, leads to further rests.
        for lot in sample_lots(4, 3, 2, ((2,), (3,), (2, 3), (2, 2, 2))):
            for modulus in (2, 3, 4):
                found = shadow_by_search(lot, modulus)
                for one in lot.chain:
                    self.assertIn(rest_of(one, modulus), found)

    def test_members_of_lots_of_finite_index(self):
        # [0.20], [5.7]: such a lot is told by the search modulo its index.
        found = 0
        for lot in sample_lots(5, 3, 12, ((2,), (3,), (2, 2), (2, 3))):
            index = lot.index_in(Lot.every(lot.shape))
            if index is None or not 2 <= index <= 12:
                continue
            found += 1
            rests = shadow_by_search(lot, index)
            source = random.Random(index)
            for _ in range(60):
                stair = made_up_stair(source, lot.shape, 20)
                self.assertEqual(stair in lot, rest_of(stair, index) in rests)
        self.assertGreater(found, 10)

    def test_known_chains(self):
        # The six stairs make the lot of all stairs, whatever else they have.
        for shape in SHAPES:
            every = Lot.every(shape)
            self.assertEqual([one.numbers for one in every.chain],
                             [tuple(int(i == k) for k in range(len(every))) for i in range(len(every))])
            near = [place for place in places(shape) if place[2] - place[1] == 1]
            self.assertEqual(Lot(shape, tuple(Stair.single(shape, place, 1) for place in near)), every)
        a, b, c = [Stair.read(text) for text in ("1 0 0/0 0/0", "0 0 0/1 0/0", "0 0 0/0 0/1")]
        lot = Lot((4,), (a.power(2), b.power(3), c.power(5)))
        self.assertEqual(tuple(lot.leads.values()), (2, 3, 5, 6, 15, 30))
        self.assertEqual(lot.index_in(Lot.every((4,))), 2 * 3 * 5 * 6 * 15 * 30)

    def test_lots_without_leads(self):
        for shape in SHAPES:
            for lot in (Lot(shape, ()), Lot(shape, (Stair.one(shape),) * 6)):
                self.assertEqual((lot.chain, lot.leads, len(lot), bool(lot), list(lot)), ((), {}, 0, False, []))
                self.assertEqual(lot, Lot(shape, ()))
                self.assertIn(Stair.one(shape), lot)
                self.assertEqual(lot.exponents(Stair.one(shape)), ())
                self.assertEqual(lot.member(()), Stair.one(shape))
                self.assertEqual(lot.index_in(lot), 1)
                self.assertIsNone(lot.index_in(Lot.every(shape)))

    def test_entries_of_sixty_digits(self):
        lot = Lot((2,), (SINGLE.power(LONGEST), SINGLE.power(LONGEST - 1)))
        self.assertEqual(lot, Lot.every((2,)))
        lot = Lot((3,), (A.power(LONGEST), B.power(LONGEST)))
        self.assertEqual(tuple(lot.leads.values()), (LONGEST, LONGEST, LONGEST ** 2))
        self.assertEqual(lot.index_in(ALL3), LONGEST ** 4)
        self.assertIn(C.power(LONGEST).power(LONGEST), lot)
        self.assertNotIn(C.power(LONGEST), lot)
        self.assertEqual(Lot((3,), lot.chain), lot)
        self.assertEqual(Lot((3,), (C.power(LONGEST).power(LONGEST),)).chain[0].numbers, (0, 0, LONGEST ** 2))

    def test_lead_numbers_are_above_0(self):
        self.assertEqual([str(one) for one in Lot((3,), (~(A * B), C.power(-3)))], ["1 1/1", "0 3/0"])

    def test_equal_lots_of_other_makers(self):
        source = random.Random(6)
        for lot in sample_lots(7, 5, 1):
            makers = list(lot.makers)
            if len(makers) >= 2:
                makers[0] = makers[0].power(-1) * makers[1].power(3)
            source.shuffle(makers)
            other = Lot(lot.shape, tuple(makers))
            self.assertEqual(other, lot)
            self.assertEqual(other.chain, lot.chain)
            self.assertFalse(other != lot)


class MakingTest(unittest.TestCase):
    def test_makers_are_kept(self):
        makers = (B, A, A, Stair.one((3,)), ~C, A * B)
        lot = Lot((3,), makers)
        self.assertEqual((lot.makers, lot.shape), (makers, (3,)))
        self.assertEqual(Lot((3,), ()).makers, ())

    def test_results_have_their_chains_as_makers(self):
        results = [Lot.every((6, 2)), EVEN | SLANT, EVEN & ALL3, ALL3 & ALL3, ALL3 | Lot((3,), ()), EVEN & Lot((3,), ())]
        for lot in results:
            self.assertEqual(lot.makers, lot.chain)
        self.assertEqual(len(Lot.every((6, 2)).makers), 16)
        self.assertEqual((ALL3 & ALL3).makers, (A, B, C))

    def test_wrong_values(self):
        for value in VALUES:
            if not is_shape(value):
                self.assertRaises(InvalidShape, Lot, value, None)
                self.assertRaises(InvalidShape, Lot.every, value)
            if value != () and value != (A, B):
                self.assertRaises(InvalidStair, Lot, (3,), value)
            if not isinstance(value, Stair) or value.shape != (3,):
                self.assertRaises(InvalidStair, Lot, (3,), (A, value))
        self.assertRaises(InvalidStair, Lot, (3,), (A,) * 7)
        self.assertRaises(InvalidStair, Lot, (2, 3), (A,))
        self.assertRaises(InvalidStair, Lot, (3,), Lot.every((4,)).chain[:2])


class MemberTest(unittest.TestCase):
    def test_3_4_exponents_and_members(self):
        source = random.Random(8)
        for lot in sample_lots(9, 4, 1):
            for _ in range(3):
                stair = made_up_member(source, lot)
                self.assertIn(stair, lot)
                self.assertIn(~stair, lot)
                exponents = lot.exponents(stair)
                self.assertEqual(exponents, divided_by_chain(lot, stair))
                if all(is_integer(number) for number in exponents):
                    self.assertEqual(lot.member(exponents), stair)
                exponents = tuple(source.randint(-9, 9) for _ in lot.chain)
                self.assertEqual(lot.exponents(lot.member(exponents)), exponents)

    def test_long_exponents(self):
        exponents = (LONGEST, -LONGEST, LONGEST)
        stair = ALL3.member(exponents)
        self.assertEqual(stair.numbers, (LONGEST, -LONGEST, LONGEST - LONGEST ** 2))
        self.assertEqual(ALL3.exponents(stair), exponents)
        stair = ALL3.member((LONGEST, LONGEST, 0))
        self.assertEqual(ALL3.exponents(~stair), (-LONGEST, -LONGEST, -LONGEST ** 2))

    def test_what_is_no_member(self):
        for value in VALUES:
            self.assertIs(value in ALL3, isinstance(value, Stair) and value.shape == (3,), repr(value))
            self.assertIs(value in Lot((3,), ()), False)
        self.assertNotIn(U, SLANT)
        self.assertNotIn(A, EVEN)
        self.assertIs(Stair.one((3,)) in Lot((2,), ()), False)
        source = random.Random(10)
        for lot in sample_lots(11, 5, 1):
            for _ in range(5):
                stair = made_up_stair(source, lot.shape, 3, 0.5)
                self.assertEqual(stair in lot, divided_by_chain(lot, stair) is not None)

    def test_wrong_values(self):
        for value in VALUES:
            if not isinstance(value, Stair) or value.shape != (3,):
                self.assertRaises(InvalidStair, EVEN.exponents, value)
            if not isinstance(value, tuple) or value not in ((0, 0, 1), (0, 1, 2)):
                self.assertRaises(InvalidOperation, EVEN.member, value)
            if not is_integer(value):
                self.assertRaises(InvalidOperation, EVEN.member, (0, 0, value))
        for value in ((0, 0), (0, 0, 0, 0), [0, 0, 0], (0, 0, TOO_LONG), (True, 0, 0)):
            self.assertRaises(InvalidOperation, EVEN.member, value)
        self.assertRaises(InvalidOperation, EVEN.exponents, A)
        self.assertRaises(InvalidOperation, Lot((3,), ()).exponents, C)


class TwoLotsTest(unittest.TestCase):
    def pairs(self, seed, most=4, shapes=SHAPES):
        """Pairs of lots of one shape, some of them with much in common."""
        source = random.Random(seed)
        for shape in shapes:
            for many in (0, 1, 2, 4):
                for part in (0.3, 0.8):
                    one = made_up_lot(source, shape, most, many, part)
                    yield one, made_up_lot(source, shape, most, source.randint(1, 4), part)
                    members = tuple(made_up_member(source, one, 2) for _ in range(3))
                    yield one, Lot(shape, members)
                    yield one, Lot(shape, tuple(stair.power(2) for stair in members)
                                   + (made_up_stair(source, shape, most, part),))

    def test_3_2_joined_lots(self):
        for one, other in self.pairs(12):
            joined = one | other
            self.assertEqual(joined, other | one)
            self.assertTrue(one.is_within(joined) and other.is_within(joined))
            if len(one.makers) + len(other.makers) <= 6:
                self.assertEqual(joined, Lot(one.shape, one.makers + other.makers))

    def test_3_2_common_parts(self):
        source = random.Random(13)
        for one, other in self.pairs(14):
            common = one & other
            self.assertEqual(common, other & one)
            self.assertTrue(common.is_within(one) and common.is_within(other))
            self.assertEqual(common, one & common)
            for lot in (one, other, one | other):
                for _ in range(3):
                    stair = made_up_member(source, lot)
                    self.assertEqual(stair in common, stair in one and stair in other)
            if other.is_within(one):
                self.assertEqual(common, other)
            if len(common.chain) <= 6:
                self.assertEqual(Lot(one.shape, common.chain).chain, common.chain)

    def test_3_2_common_parts_of_finite_index(self):
        # Modulo the product of both indices the common part has just what both searches have.
        found = 0
        for one, other in self.pairs(15, 3, ((2,), (3,), (2, 2), (2, 3)) * 12):
            every = Lot.every(one.shape)
            indices = [lot.index_in(every) for lot in (one, other)]
            if None in indices or not 4 <= math.prod(indices) <= 12:
                continue
            found += 1
            modulus = math.prod(indices)
            rests = shadow_by_search(one, modulus) & shadow_by_search(other, modulus)
            common = one & other
            self.assertEqual(shadow_by_search(Lot(one.shape, common.chain), modulus), rests)
            self.assertEqual(common.index_in(every) * len(rests), modulus ** len(every))
        self.assertGreater(found, 5)

    def test_common_parts_with_known_results(self):
        two, three = Lot((2,), (SINGLE.power(4),)), Lot((2,), (SINGLE.power(6),))
        self.assertEqual((two & three).leads, {(0, 0, 1): 12})
        self.assertEqual((Lot((3,), (A,)) & Lot((3,), (B,))).chain, ())
        self.assertEqual((Lot((3,), (A.power(2) * C,)) & Lot((3,), (A.power(2),))).chain, ())
        self.assertEqual((Lot((3,), (A.power(4), C)) & Lot((3,), (A.power(6), C.power(2)))).leads,
                         {(0, 0, 1): 12, (0, 0, 2): 2})

    def test_long_entries(self):
        for one, other in self.pairs(16, LONGEST, ((3,), (4,), (2, 3), (2, 2, 2))):
            common = one & other
            self.assertEqual(common, other & one)
            self.assertTrue(common.is_within(one) and common.is_within(other))

    def test_3_2_within(self):
        for one, other in self.pairs(17):
            wanted = all(maker in other for maker in one.makers)
            self.assertIs(one.is_within(other), wanted)
            self.assertIs(one.is_within(other), (one | other) == other)
            self.assertIs(one == other, wanted and other.is_within(one))
            self.assertTrue(one.is_within(one))

    def test_3_3_index_of_parted_members(self):
        # Of the members of EVEN and of all stairs: the classes of which no two are one are counted.
        for lot in (EVEN, Lot((3,), (A.power(2), B.power(2), C)), Lot((3,), (A, B.power(3))), ALL3):
            parted = []
            for numbers in ((x, y, z) for x in range(-2, 3) for y in range(-2, 3) for z in range(-5, 6)):
                stair = Stair((3,), dict(zip(places((3,)), numbers)))
                if all(~stair * other not in lot for other in parted):
                    parted.append(stair)
            self.assertEqual(lot.index_in(ALL3), len(parted))

    def test_3_3_quotients(self):
        for one, other in self.pairs(18):
            joined = one | other
            for lot in (one, other, joined, one & other):
                index = lot.index_in(joined)
                if list(lot.leads) != list(joined.leads):
                    self.assertIsNone(index)
                else:
                    self.assertEqual(index, math.prod(lot.leads[place] // joined.leads[place] for place in lot.leads))

    def test_3_4_indices_are_multiplied(self):
        source = random.Random(19)
        for shape in SHAPES:
            outer = Lot.every(shape)
            middle = Lot(shape, tuple(one.power(source.randint(1, 4)) for one in outer.chain[:6])) if len(outer) < 7 else outer
            inner = Lot(shape, tuple(one.power(source.randint(1, 3)) for one in middle.chain[:6]))
            indices = inner.index_in(middle), middle.index_in(outer)
            wanted = None if None in indices else indices[0] * indices[1]
            self.assertEqual(inner.index_in(outer), wanted)
        self.assertIsNone(SLANT.index_in(ALL3))

    def test_0_20_multiples_of_the_index(self):
        source = random.Random(20)
        for lot in (EVEN, Lot((4,), tuple(one.power(2) for one in Lot.every((4,)).chain)),
                    Lot((2, 3), tuple(one.power(3) for one in Lot.every((2, 3)).chain))):
            index = lot.index_in(Lot.every(lot.shape))
            for _ in range(20):
                stair = made_up_stair(source, lot.shape, 9)
                self.assertIn(Stair(lot.shape, {place: index * number for place, number in stair.entries.items()}), lot)

    def test_wrong_lots(self):
        for value in VALUES:
            if not isinstance(value, Lot):
                self.assertRaises(TypeError, lambda: EVEN | value)
                self.assertRaises(TypeError, lambda: EVEN & value)
                self.assertRaises(TypeError, lambda: value | EVEN)
                self.assertRaises(TypeError, lambda: value & EVEN)
            if not isinstance(value, Lot) or value.shape != (3,):
                self.assertRaises(InvalidLot, EVEN.is_within, value)
                self.assertRaises(InvalidLot, EVEN.index_in, value)
        other = Lot((2, 3), ())
        self.assertRaises(InvalidLot, lambda: EVEN | other)
        self.assertRaises(InvalidLot, lambda: EVEN & other)
        self.assertRaises(InvalidOperation, ALL3.index_in, EVEN)
        self.assertRaises(InvalidOperation, EVEN.index_in, Lot((3,), ()))


class FalseStatementTest(unittest.TestCase):
    """[0.21]: what is not true."""

    def test_equal_lead_numbers(self):
        one, other = Lot((3,), (A * B, C)), Lot((3,), (A, C))
        self.assertEqual(one.leads, other.leads)
        self.assertFalse(one == other)

    def test_leads_of_common_parts(self):
        one, other = Lot((3,), (A.power(2) * C,)), Lot((3,), (A.power(2),))
        self.assertEqual((one.leads, other.leads), ({(0, 0, 1): 2},) * 2)
        self.assertEqual((one & other).leads, {})

    def test_multiples_of_an_index_within_another_lot(self):
        outer = Lot((3,), (A.power(2) * C, C.power(2)))
        inner = Lot((3,), (outer.chain[0].power(2), C.power(2)))
        self.assertEqual(inner.index_in(outer), 2)
        self.assertIn(C.power(2), outer)
        inner = Lot((3,), (outer.chain[0], C.power(4)))
        self.assertEqual(inner.index_in(outer), 2)
        self.assertNotIn(C.power(2), inner)


class ValueTest(unittest.TestCase):
    def test_equality(self):
        for value in VALUES:
            self.assertIs(ALL3 == value, isinstance(value, Lot) and value.shape == (3,))
            self.assertIs(ALL3 != value, not (isinstance(value, Lot) and value.shape == (3,)))
        self.assertFalse(Lot((2, 3), ()) == Lot((3, 2), ()))

    def test_iterating(self):
        self.assertEqual(tuple(EVEN), EVEN.chain)
        self.assertEqual([list(EVEN), len(EVEN), bool(EVEN)], [list(EVEN.chain), 3, True])
        self.assertEqual(str(Lot.every((6, 2))), "lot of 16 in (6, 2)")
        self.assertEqual(str(Lot((4,), ())), "lot of 0 in (4,)")

    def test_it_never_changes(self):
        for name in ("shape", "makers", "chain", "leads"):
            with self.assertRaises(AttributeError):
                setattr(EVEN, name, None)
        EVEN.leads.clear()
        self.assertEqual(len(EVEN.leads), 3)


if __name__ == "__main__":
    unittest.main()
