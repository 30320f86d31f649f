"""[0.14], [0.15], [0.21], [5.1] to [5.4], [5.7] and the class Shadow."""

import math
import random
import unittest

from stairlots.base.shapes import places
from stairlots.errors import InvalidLot, InvalidNumber, TooMany
from stairlots.lots.lots import Lot
from stairlots.shadow import shadows
from stairlots.shadow.shadows import Shadow
from stairlots.stair.stairs import Stair
from tests.helper import (A, ALL3, B, C, EVEN, LONGEST, SHAPES, SLANT, U, VALUES, made_up_lot, made_up_member,
                          made_up_stair, rest_of, sample_lots, shadow_by_search)

SINGLE = Stair.single((2,), (0, 0, 1), 1)
SMALL_SHAPES = ((2,), (3,), (2, 3), (2, 2, 2), (4,))


def small_shadows(seed, most=4):
    """Lots and moduli with few members, and what a search finds."""
    source = random.Random(seed)
    for shape in SMALL_SHAPES:
        for many in (0, 1, 2, 3):
            for modulus in (2, 3, 4, 6, 8, 9):
                lot = made_up_lot(source, shape, most, many, source.choice((0.4, 1)))
                if modulus ** len(places(shape)) <= 1300:
                    yield lot, modulus, shadow_by_search(lot, modulus)


class ExampleTest(unittest.TestCase):
    def test_constants(self):
        self.assertEqual((shadows.MAX_SHADOW_DIGITS, shadows.MAX_MEMBERS), (4000, 5000))

    def test_document(self):
        self.assertEqual([Shadow(SLANT, 4).leads, Shadow(SLANT, 16).leads, Shadow(SLANT, 16).size, str(Shadow(SLANT, 6))],
                         [{(0, 0, 2): 1}, {(0, 0, 1): 4, (0, 0, 2): 4}, 16, "shadow of 2 in (3,) modulo 6"])
        self.assertEqual(([U in Shadow(SLANT, number) for number in (2, 3, 4, 8)], U in SLANT),
                         ([True, False, True, False], False))
        self.assertEqual([one.numbers for one in Shadow(SLANT, 2).members()], [(0, 0, 0), (0, 0, 1)])


class ShadowTest(unittest.TestCase):
    def test_5_1_members_are_those_of_the_search(self):
        for lot, modulus, rests in small_shadows(1):
            shadow = Shadow(lot, modulus)
            self.assertEqual(shadow.size, len(rests))
            members = list(shadow.members())
            self.assertEqual({stair.numbers for stair in members}, rests)
            self.assertEqual(len(members), len(rests))
            source = random.Random(modulus)
            for _ in range(20):
                stair = made_up_stair(source, lot.shape, 50)
                self.assertIs(stair in shadow, rest_of(stair, modulus) in rests)

    def test_5_2_chains_by_their_definition(self):
        for lot, modulus, rests in small_shadows(2):
            shadow = Shadow(lot, modulus)
            leads = {}
            for at, place in enumerate(places(lot.shape)):
                here = [numbers[at] for numbers in rests if numbers[at] and not any(numbers[:at])]
                if here:
                    leads[place] = min(here)
            self.assertEqual(list(shadow.leads.items()), list(leads.items()))
            self.assertEqual(len(shadow), len(leads))
            self.assertEqual([one.lead for one in shadow.chain], list(leads))
            for one in shadow.chain:
                self.assertIn(one.numbers, rests)
                self.assertEqual(one.entries[one.lead], leads[one.lead])
                self.assertTrue(all(0 <= number < modulus for number in one.numbers))
                for place in places(lot.shape)[places(lot.shape).index(one.lead) + 1:]:
                    self.assertIn(one.entries.get(place, 0), range(leads.get(place, modulus)))
            self.assertTrue(all(modulus % lead == 0 and lead < modulus for lead in leads.values()))
            self.assertEqual(shadow.size, math.prod(modulus // lead for lead in leads.values()))

    def test_5_2_members_ascend_by_their_exponents(self):
        for lot, modulus in ((EVEN, 4), (SLANT, 16), (Lot.every((2, 3)), 3), (Lot((4,), (Stair.read("1 0 0/1 0/1"),)), 4)):
            shadow = Shadow(lot, modulus)
            wanted = [Stair.one(lot.shape)]
            for one in shadow.chain:
                many = modulus // one.entries[one.lead]
                wanted = [stair * one.power(number) for stair in wanted for number in range(many)]
            self.assertEqual([stair.numbers for stair in shadow.members()], [rest_of(stair, modulus) for stair in wanted])

    def test_5_3_leads_divide_those_of_the_lot(self):
        source = random.Random(3)
        for lot in sample_lots(4, 9, 1):
            for modulus in (2, 6, 7, 16, source.randint(2, 10 ** 30)):
                shadow = Shadow(lot, modulus)
                for place in places(lot.shape):
                    self.assertEqual(lot.leads.get(place, 0) % shadow.leads.get(place, modulus), 0)
                for one in lot.chain + lot.makers + (made_up_member(source, lot),):
                    self.assertIn(one, shadow)
        self.assertEqual(SLANT.leads, {(0, 0, 1): 4})
        self.assertIn((0, 0, 2), Shadow(SLANT, 16).leads)
        self.assertEqual(rest_of(Shadow(SLANT, 16).chain[0].power(4), 16), (0, 0, 4))

    def test_5_4_divisors_of_moduli(self):
        source = random.Random(5)
        for lot in sample_lots(6, 5, 1):
            for a, b in ((2, 3), (4, 9), (5, 8), (10 ** 20, 10 ** 20 + 1)):
                one, other, both = Shadow(lot, a), Shadow(lot, b), Shadow(lot, a * b)
                self.assertEqual(both.size, one.size * other.size)
                for stair in (made_up_member(source, lot), made_up_stair(source, lot.shape, 3, 0.4)):
                    self.assertIs(stair in both, stair in one and stair in other)
            for n, m in ((2, 4), (3, 12), (10, 100)):
                for stair in Shadow(lot, m).chain:
                    self.assertIn(stair, Shadow(lot, n))

    def test_5_7_shadows_modulo_the_index(self):
        source = random.Random(7)
        for lot in sample_lots(8, 4, 1):
            index = lot.index_in(Lot.every(lot.shape))
            if index is None or index < 2:
                continue
            shadow = Shadow(lot, index)
            self.assertEqual(index * shadow.size, Shadow(Lot.every(lot.shape), index).size)
            for stair in (made_up_member(source, lot), made_up_stair(source, lot.shape, 9)):
                self.assertIs(stair in lot, stair in shadow)
                # What has the same rest belongs to the lot, too.
                other = Stair(lot.shape, {place: index * source.randint(-3, 3) for place in places(lot.shape)})
                self.assertIs(stair in lot, stair * other in lot)

    def test_0_15_what_is_no_member_is_barred(self):
        source = random.Random(9)
        for lot in sample_lots(10, 4, 1):
            for _ in range(4):
                stair = made_up_stair(source, lot.shape, 3, 0.5)
                barring = [modulus for modulus in (2, 3, 4, 5, 7, 8, 9, 2 ** 40 * 3 ** 40 * 5 ** 40 * 7 ** 40)
                           if stair not in Shadow(lot, modulus)]
                if stair in lot:
                    self.assertEqual(barring, [])
                for modulus in barring:
                    self.assertNotIn(stair, Shadow(lot, modulus * 6))

    def test_0_15_first_numbers_that_bar(self):
        # [5.6] tells where to look for a modulus: b, b ** 2, b ** 4 and so on.
        barred = 0
        source = random.Random(11)
        for lot in sample_lots(12, 4, 1):
            stair = made_up_stair(source, lot.shape, 3, 0.6)
            if stair in lot:
                continue
            modulus = first_number(lot, stair)
            for _ in range(8):
                if stair not in Shadow(lot, modulus):
                    barred += 1
                    break
                modulus = modulus * modulus
            else:
                self.fail("nothing bars what is no member")
        self.assertGreater(barred, 20)

    def test_0_21_no_prime_need_bar(self):
        two = Lot((2,), (SINGLE.power(4),))
        self.assertNotIn(SINGLE.power(2), two)
        self.assertEqual([SINGLE.power(2) in Shadow(two, value) for value in (2, 3, 5, 7, 11, 4)], [True] * 5 + [False])
        one, other = Lot((2,), (SINGLE.power(7),)), Lot((2,), (SINGLE,))
        self.assertEqual([Shadow(one, value) == Shadow(other, value) for value in (2, 3, 5, 7)], [True] * 3 + [False])
        self.assertFalse(one == other)

    def test_large_moduli(self):
        most = 10 ** 4000 - 1
        for shape in ((3,), (6,), (6, 2), (2, 2, 2)):
            shadow = Shadow(Lot.every(shape), most)
            self.assertEqual(shadow.size, most ** len(places(shape)))
            self.assertEqual(set(shadow.leads.values()), {1})
        source = random.Random(13)
        for modulus in (most, 10 ** 3999, 6 ** 5000):
            lot = made_up_lot(source, (4,), LONGEST, 2)
            shadow = Shadow(lot, modulus)
            self.assertTrue(all(modulus % lead == 0 for lead in shadow.leads.values()))
            self.assertIn(made_up_member(source, lot), shadow)
            self.assertTrue(all(one in shadow for one in shadow.chain))
        self.assertEqual(Shadow(Lot((3,), (A.power(LONGEST),)), 10 ** 3000).leads, {(0, 0, 1): 1})

    def test_no_makers(self):
        for shape in SHAPES:
            shadow = Shadow(Lot(shape, ()), 12)
            self.assertEqual((shadow.chain, shadow.leads, shadow.size, len(shadow)), ((), {}, 1, 0))
            self.assertEqual([stair.numbers for stair in shadow.members()], [(0,) * len(places(shape))])

    def test_multiples_of_the_modulus_are_one(self):
        self.assertEqual(Shadow(Lot((3,), (A.power(4), C.power(6))), 2).size, 1)
        self.assertIn(A.power(-8), Shadow(Lot((3,), ()), 4))


def first_number(lot, stair):
    """The number b of [5.6]."""
    for place in places(lot.shape):
        left = stair.entries.get(place, 0)
        lead = lot.leads.get(place, 0)
        if left and not lead:
            return 2
        if left % lead if lead else False:
            return lead // math.gcd(lead, left)
        if left:
            member = [one for one in lot.chain if one.lead == place][0]
            stair = member.power(-(left // lead)) * stair
    raise AssertionError("this is a member")


class MembersTest(unittest.TestCase):
    def test_five_thousand_members_and_more(self):
        lot = Lot.every((2,))
        self.assertEqual(len(list(Shadow(lot, 5000).members())), 5000)
        self.assertEqual([stair.numbers for stair in Shadow(lot, 5000).members()], [(number,) for number in range(5000)])
        for shadow in (Shadow(lot, 5001), Shadow(Lot.every((6, 2)), 2), Shadow(lot, 10 ** 3999)):
            found = shadow.members()
            with self.assertRaises(TooMany) as caught:
                next(found)
            self.assertEqual(caught.exception.most, 5000)
        self.assertEqual(len(list(Shadow(Lot.every((2, 2, 2)), 17).members())), 17 ** 3)

    def test_it_is_a_generator(self):
        found = Shadow(EVEN, 4).members()
        self.assertIs(iter(found), found)
        self.assertEqual(next(found), Stair.one((3,)))
        self.assertEqual(next(found).numbers, (0, 0, 2))
        self.assertEqual(len(list(found)), Shadow(EVEN, 4).size - 2)

    def test_members_have_the_shape(self):
        self.assertTrue(all(stair.shape == (2, 3) for stair in Shadow(Lot.every((2, 3)), 2).members()))


class ValueTest(unittest.TestCase):
    def test_properties(self):
        shadow = Shadow(EVEN, 6)
        self.assertIs(shadow.lot, EVEN)
        self.assertEqual(shadow.modulus, 6)
        for name in ("lot", "modulus", "chain", "leads", "size"):
            with self.assertRaises(AttributeError):
                setattr(shadow, name, None)
        shadow.leads.clear()
        self.assertEqual(len(shadow.leads), 3)
        self.assertRaises(TypeError, iter, shadow)

    def test_equality(self):
        self.assertTrue(Shadow(EVEN, 3) == Shadow(ALL3, 3))
        self.assertFalse(Shadow(EVEN, 3) != Shadow(ALL3, 3))
        self.assertFalse(Shadow(EVEN, 2) == Shadow(ALL3, 2))
        self.assertFalse(Shadow(ALL3, 3) == Shadow(ALL3, 2))
        self.assertFalse(Shadow(Lot((2, 3), ()), 3) == Shadow(Lot((3, 2), ()), 3))
        self.assertFalse(Shadow(Lot((3,), ()), 3) == Shadow(Lot((3,), ()), 2))
        for value in VALUES:
            if not isinstance(value, Shadow):
                self.assertFalse(Shadow(ALL3, 2) == value)
                self.assertTrue(Shadow(ALL3, 2) != value)
        for lot, modulus, rests in small_shadows(14):
            other = Lot(lot.shape, tuple(one * made_up_stair(random.Random(1), lot.shape, 2).power(modulus) for one in lot.makers))
            self.assertIs(Shadow(other, modulus) == Shadow(lot, modulus), shadow_by_search(other, modulus) == rests)

    def test_what_is_in(self):
        for value in VALUES:
            self.assertIs(value in Shadow(ALL3, 2), isinstance(value, Stair) and value.shape == (3,))
        self.assertNotIn(Stair.one((2, 3)), Shadow(ALL3, 2))
        self.assertIn(B.power(LONGEST) * B.power(LONGEST), Shadow(EVEN, 2))

    def test_wrong_values(self):
        for value in VALUES:
            if not isinstance(value, Lot):
                self.assertRaises(InvalidLot, Shadow, value, None)
            if isinstance(value, int) and not isinstance(value, bool) and value >= 2:
                self.assertEqual(Shadow(EVEN, value).modulus, value)
                continue
            with self.assertRaises(InvalidNumber) as caught:
                Shadow(EVEN, value)
            self.assertIs(caught.exception.given, value)
        for value in (10 ** 4000, 10 ** 4000 + 1, 1, 0, -2, -(10 ** 4000)):
            with self.assertRaises(InvalidNumber) as caught:
                Shadow(EVEN, value)
            self.assertIs(caught.exception.given, value)
        self.assertEqual(Shadow(EVEN, 10 ** 4000 - 1).size, (10 ** 4000 - 1) ** 3)


if __name__ == "__main__":
    unittest.main()
