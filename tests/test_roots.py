"""[14.3] to [14.5], [14.8] to [14.10], [0.19] and the functions of roots."""

import math
import random
import unittest

from stairlots.errors import InvalidLot, InvalidNumber, InvalidStair
from stairlots.lots.lots import Lot
from stairlots.maps.maps import LotMap
from stairlots.normal.normals import closure, is_normal
from stairlots.roots.logs import bracket_of_logs, log_of, stair_of
from stairlots.roots.roots import is_rooted, least_power, root, rooted
from stairlots.roots.spans import span_of
from stairlots.stair.stairs import Stair
from stairlots.way.likeness import are_alike, commuting
from tests.helper import (A, ALL3, B, C, EVEN, LONGEST, SHAPES, TOO_LONG, VALUES, made_up_lot, made_up_member,
                          made_up_stair, sample_lots, wrong_members)

TWOS = Lot((3,), (A.power(2), B.power(2)))


def stairs(seed, most=9):
    """Stairs of all kinds of shapes."""
    source = random.Random(seed)
    for shape in SHAPES:
        for part in (0.3, 0.6, 1):
            yield source, made_up_stair(source, shape, most, part)


def lots(seed, most=9):
    """Lots of all kinds."""
    return sample_lots(seed, most, 1) + sample_lots(seed + 1, LONGEST, 1, ((2,), (3,), (4,), (2, 3), (6, 2)))


class ExampleTest(unittest.TestCase):
    def test_document(self):
        x = Stair.read("2 5/2")
        self.assertEqual((str(root(x, 2)), root(Stair.read("2 4/2"), 2), str(root(x, -1))), ("1 2/1", None, "-2 -1/-2"))
        lot = Lot((3,), (Stair.read("4 2/0"),))
        self.assertEqual(([str(one) for one in rooted(lot).chain], lot.index_in(rooted(lot))), (["2 1/0"], 2))
        self.assertEqual(([least_power(lot, Stair.read(text)) for text in ("2 1/0", "1 0/0", "0 0/0")], is_rooted(lot),
                          is_rooted(ALL3)), ([2, None, 1], False, True))
        wide = Lot((3,), (Stair.read("2 0/0"), Stair.read("0 0/3")))
        self.assertEqual((rooted(wide) == ALL3, wide.index_in(ALL3)), (True, 36))


class RootTest(unittest.TestCase):
    def test_14_4_roots_of_powers(self):
        for source, stair in stairs(1):
            for number in (1, -1, 2, -2, 3, 12, -35, 10 ** 20, LONGEST, -LONGEST):
                self.assertEqual(root(stair.power(number), number), stair)
            self.assertEqual(root(stair, 1), stair)
            self.assertEqual(root(stair, -1), ~stair)

    def test_14_4_stairs_with_roots_and_without(self):
        found = {True: 0, False: 0}
        for source, stair in stairs(2, 3):
            for number in (2, -2, 3, 4, 6):
                power = stair.power(number)
                for near in (power, stair, power * made_up_stair(source, stair.shape, 2, 0.2)):
                    made = root(near, number)
                    log = tuple(ratio.over(number) for ratio in log_of(near))
                    self.assertEqual(made, stair_of(stair.shape, log))
                    found[made is None] += 1
                    if made is not None:
                        self.assertEqual(made.power(number), near)
                        self.assertEqual(log_of(made), log)
        self.assertGreater(min(found.values()), 60)

    def test_14_4_all_small_roots(self):
        # Each stair that has a root among small stairs is found to have it, all others have none there.
        small = [Stair((3,), {(0, 0, 1): a, (0, 0, 2): b, (0, 1, 2): c})
                 for a in range(-2, 3) for b in range(-6, 7) for c in range(-2, 3)]
        for number in (2, 3, -2):
            powers = {stair.power(number).numbers: stair for stair in small}
            self.assertEqual(len(powers), len(small))
            for stair in small:
                made = root(stair, number)
                if stair.numbers in powers:
                    self.assertEqual(made, powers[stair.numbers])
                elif made is not None:
                    self.assertEqual(made.power(number), stair)
                    self.assertNotIn(made, small)

    def test_14_4_powers_that_commute(self):
        for source, stair in stairs(3, 3):
            other = made_up_stair(source, stair.shape, 3, 0.4)
            for y in (other, stair.power(3), stair.power(2) * Lot.every(stair.shape).chain[-1]):
                for a, b in ((2, 3), (-1, 5), (LONGEST, 2)):
                    powers = stair.power(a) * y.power(b) == y.power(b) * stair.power(a)
                    self.assertIs(powers, stair * y == y * stair)
                    brackets = bracket_of_logs(stair.shape, log_of(stair), log_of(y))
                    self.assertIs(powers, not any(brackets))

    def test_0_19_powers_that_are_led(self):
        for source, stair in stairs(4, 3):
            mover = made_up_stair(source, stair.shape, 3, 0.5)
            for other in (stair.led(mover), stair.led(mover) * Lot.every(stair.shape).chain[-1], stair):
                for number in (2, -3):
                    self.assertIs(stair.power(number).led(mover) == other.power(number), stair.led(mover) == other)

    def test_roots_of_one(self):
        for shape in SHAPES:
            one = Stair.one(shape)
            for number in (1, -1, 2, -7, LONGEST):
                self.assertEqual(root(one, number), one)

    def test_wrong_values(self):
        for value in VALUES:
            if not isinstance(value, Stair):
                self.assertRaises(InvalidStair, root, value, 0)
            if not (isinstance(value, int) and not isinstance(value, bool) and value != 0 and abs(value) < TOO_LONG):
                with self.assertRaises(InvalidNumber) as caught:
                    root(A, value)
                self.assertIs(caught.exception.given, value)


class LeastPowerTest(unittest.TestCase):
    def check(self, lot, stair):
        """The least power of a stair that a lot has, by the definition."""
        many = least_power(lot, stair)
        if many is None:
            for number in (1, 2, 12, 5040, 10 ** 30):
                self.assertNotIn(stair.power(number), lot)
            return None
        self.assertGreaterEqual(many, 1)
        if many < TOO_LONG:
            self.assertIn(stair.power(many), lot)
        if many < 200:
            for number in range(1, 3 * many):
                self.assertIs(stair.power(number) in lot, number % many == 0)
                self.assertIs(stair.power(-number) in lot, number % many == 0)
        else:
            for prime in (2, 3, 5, 7, 11, 13):
                if many % prime == 0 and many // prime < TOO_LONG:
                    self.assertNotIn(stair.power(many // prime), lot)
        return many

    def test_least_powers(self):
        found = {True: 0, False: 0}
        for lot in lots(5, 4):
            source = random.Random(5)
            outer = rooted(lot)
            cases = [made_up_member(source, lot, 2), made_up_stair(source, lot.shape, 2, 0.3), Stair.one(lot.shape)]
            cases += [made_up_member(source, outer, 1), made_up_member(source, outer, 2)]
            for stair in cases:
                many = self.check(lot, stair)
                found[many is None] += 1
                self.assertIs(stair in outer, many is not None)
                self.assertIs(many == 1, stair in lot)
        self.assertGreater(min(found.values()), 20)

    def test_it_need_not_divide_the_index(self):
        # A power that leads further behind has to be divided there as well.
        lot = Lot((3,), (A.power(2), B.power(2), C.power(4)))
        self.assertEqual([self.check(lot, stair) for stair in (A, B, C, A * B, A * C, A.power(2) * B, A * B.power(2) * C)],
                         [2, 2, 4, 8, 4, 4, 2])
        slant = Lot((3,), (A.power(2) * C, B))
        self.assertEqual([self.check(slant, stair) for stair in (A, A.power(2), C, A * C)], [4, 2, 2, 4])

    def test_long_powers(self):
        lot = Lot((2, 2), (Stair.read(f"{LONGEST}; 0"), Stair.read(f"0; {LONGEST - 1}")))
        self.assertEqual(least_power(lot, Stair.read("1; 1")), LONGEST * (LONGEST - 1))
        self.assertEqual(least_power(lot, Stair.read("3; 0")), LONGEST // 3)
        far = Lot((3,), (A.power(LONGEST), B.power(LONGEST)))
        self.assertEqual(least_power(far, A), LONGEST)
        self.assertEqual(least_power(far, C), LONGEST ** 2)

    def test_wrong_values(self):
        for value in VALUES:
            if not isinstance(value, Lot):
                self.assertRaises(InvalidLot, least_power, value, None)
                self.assertRaises(InvalidLot, rooted, value)
                self.assertRaises(InvalidLot, is_rooted, value)
        for value in wrong_members((3,)):
            self.assertRaises(InvalidStair, least_power, EVEN, value)


class RootedTest(unittest.TestCase):
    def test_14_5_the_only_lot(self):
        for lot in lots(6):
            source = random.Random(6)
            outer = rooted(lot)
            self.assertEqual(outer.makers, outer.chain)
            self.assertTrue(lot.is_within(outer))
            self.assertIsNotNone(lot.index_in(outer))
            self.assertIs(is_rooted(outer), True)
            self.assertEqual(rooted(outer), outer)
            self.assertIs(is_rooted(lot), lot == outer)
            for one in outer.chain:
                self.assertIsNotNone(least_power(lot, one))
            for number in (2, 3, 4, 6):
                stair = made_up_member(source, lot, 2)
                made = root(stair, number)
                if made is not None:
                    self.assertIn(made, outer)

    def test_14_5_just_what_has_powers_in_the_lot(self):
        found = {True: 0, False: 0}
        for lot in lots(7, 3):
            source = random.Random(7)
            outer = rooted(lot)
            for stair in (made_up_stair(source, lot.shape, 1, 0.2), made_up_member(source, outer, 1),
                          made_up_member(source, outer, 1) * made_up_stair(source, lot.shape, 1, 0.1)):
                wanted = least_power(lot, stair) is not None
                found[wanted] += 1
                self.assertIs(stair in outer, wanted)
        self.assertGreater(min(found.values()), 30)

    def test_lots_without_makers(self):
        for shape in SHAPES:
            none = Lot(shape, ())
            self.assertEqual((rooted(none), is_rooted(none)), (none, True))
            self.assertEqual((least_power(none, Stair.one(shape)), least_power(none, Lot.every(shape).chain[0])), (1, None))
            self.assertIs(is_rooted(Lot.every(shape)), True)

    def test_14_9_common_and_joined_lots(self):
        for one in lots(8, 3):
            source = random.Random(8)
            other = made_up_lot(source, one.shape, 3, 2, 0.3) | Lot(one.shape, one.chain[:1])
            self.assertEqual(rooted(one & other), rooted(one) & rooted(other))
            self.assertEqual(rooted(one | other), rooted(rooted(one) | rooted(other)))
            powers = Lot(one.shape, tuple(stair.power(2) for stair in one.chain[:6]))
            for second in (other, powers, powers | Lot(one.shape, one.chain[-1:])):
                both = one & second
                wanted = both.index_in(one) is not None and both.index_in(second) is not None
                self.assertIs(rooted(one) == rooted(second), wanted)
                self.assertIs(span_of(one) == span_of(second), wanted)

    def test_14_9_powers_that_commute_with_a_lot(self):
        for lot in lots(9, 3):
            every = Lot.every(lot.shape)
            source = random.Random(9)
            for stair in (every.chain[-1], made_up_stair(source, lot.shape, 2, 0.3)):
                alone = all(stair * one == one * stair for one in lot.chain)
                power = stair.power(3)
                self.assertIs(all(power * one == one * power for one in lot.chain), alone)
            inner = commuting(every, lot.chain[:3]) if lot.chain else every
            self.assertIs(is_rooted(inner), True)

    def test_14_10_what_is_not_true(self):
        # The logs of the members of a lot have the sums of any two of them.
        total = tuple(a + b for a, b in zip(log_of(A), log_of(B)))
        self.assertIsNone(stair_of((3,), total))
        # A lot is closed under roots if it has all roots of its makers.
        lot = Lot((2, 2), (Stair.read("1; 1"), Stair.read("1; -1")))
        for maker in lot.makers:
            for number in range(2, 6):
                self.assertIsNone(root(maker, number))
        self.assertIs(is_rooted(lot), False)
        self.assertEqual(lot.index_in(rooted(lot)), 2)
        # `rooted(a) | rooted(b)` is closed under roots.
        one, other = Lot((2, 2), lot.makers[:1]), Lot((2, 2), lot.makers[1:])
        self.assertEqual((is_rooted(one), is_rooted(other), is_rooted(rooted(one) | rooted(other))), (True, True, False))
        # A stair with a power that leads a lot into itself leads it into itself.
        lot = Lot((3,), (B, C.power(2)))
        self.assertEqual(lot, closure(Lot((3,), (A.power(2),)), lot))
        self.assertIs(is_normal(Lot((3,), (A.power(2), B, C)), lot), True)
        self.assertNotIn(B.led(A), lot)

    def test_8_6_roots_and_likeness(self):
        for source, stair in stairs(10, 3):
            every = Lot.every(stair.shape)
            other = stair.led(made_up_stair(source, stair.shape, 2, 0.5))
            self.assertIs(are_alike(every, (stair.power(2),), (other.power(2),)), True)
            self.assertEqual(commuting(every, (stair.power(5),)), commuting(every, (stair,)))

    def test_maps_go_on_with_roots(self):
        # What leads powers leads the stairs: a map tells where roots go.
        f = LotMap(TWOS, (B.power(2), A.power(2)))
        for stair in TWOS.chain:
            made = root(stair, 2)
            if made is not None and root(f(stair), 2) is not None:
                self.assertEqual(root(f(stair), 2).power(2), f(stair))
        self.assertEqual(math.prod(TWOS.leads.values()), TWOS.index_in(rooted(TWOS)))


if __name__ == "__main__":
    unittest.main()
