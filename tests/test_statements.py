"""[0.15] to [0.21] and [6.6]: what holds, and what does not hold, over several modules."""

import math
import random
import unittest

from stairlots.base.shapes import places
from stairlots.base.wholes import is_integer
from stairlots.index.lots import lots_of_index
from stairlots.lots.derivations import derivation, worth
from stairlots.lots.lots import Lot
from stairlots.lots.sums import is_sum, kernel, step, sum_at, sums
from stairlots.maps.maps import LotMap, is_map, map_paper
from stairlots.normal.brackets import lot_of_brackets
from stairlots.normal.normals import closure, is_normal
from stairlots.normal.rests import Rest
from stairlots.roots.logs import log_of, stair_of
from stairlots.roots.roots import is_rooted, least_power, root, rooted
from stairlots.roots.spans import is_span, lot_of_span, span_of
from stairlots.shadow.bars import bar, is_bar
from stairlots.shadow.shadows import Shadow
from stairlots.stair.stairs import Stair
from stairlots.way.likeness import alike_paper, are_alike, commuting, is_alike_paper
from stairlots.way.numbers import are_led, done, is_way_paper, staying, way_paper
from stairlots.way.sides import is_product, is_sides_paper, product_paper, sides_paper, steps_of_sides
from tests.helper import (A, ALL3, B, C, SHAPES, made_up_lot, made_up_member, made_up_stair, sample_lots, shadow_stairs)


def prime_powers(number):
    """The greatest powers of primes that divide an integer."""
    found, prime = [], 2
    while number > 1:
        power = 1
        while number % prime == 0:
            number, power = number // prime, power * prime
        if power > 1:
            found.append(power)
        prime += 1
        if prime > 5000 and number > 1:
            return found + [number]
    return found


def questions(seed):
    """All five questions: what finds a paper of a wish, and what tells whether a modulus bars it."""
    source = random.Random(seed)
    for lot in sample_lots(seed, 4, 1):
        shape = lot.shape
        inner, other = made_up_member(source, lot, 2), made_up_stair(source, shape, 3, 0.4)
        last = Lot.every(shape).chain[-1].power(source.choice((1, 2, 3, 6)))
        for wish in (inner, inner * last, other):
            found = bar(lot, wish)
            yield ("led", wish) if found is None else ("barred", found), lambda n, w=wish, h=lot: is_bar(h, w, n)
        numbers = tuple(source.randint(-6, 6) for _ in range(sum(shape)))
        for wish in (done(inner, numbers), done(inner * last, numbers), done(other, numbers)):
            yield (way_paper(lot, numbers, wish),
                   lambda n, w=wish, h=lot, k=numbers: is_way_paper(h, k, w, ("barred", n)))
        stairs = (other, made_up_stair(source, shape, 2, 0.3))
        for wish in (tuple(one.led(inner) for one in stairs), tuple(one.led(inner) * last for one in stairs)):
            yield (alike_paper(lot, stairs, wish),
                   lambda n, w=wish, h=lot, s=stairs: is_alike_paper(h, s, w, ("barred", n)))
        second = made_up_lot(source, shape, 3, 2, 0.4)
        for wish in (inner * other * made_up_member(source, second, 2), inner * other * last, last):
            yield (sides_paper(lot, other, second, wish),
                   lambda n, w=wish, h=lot, k=second, x=other: is_sides_paper(h, x, k, w, ("barred", n)))
        rest = Rest(lot, closure(lot, Lot(shape, tuple(one.power(3) for one in lot.chain[:2]))))
        mine = made_up_member(source, lot, 1)
        for wish in (mine.led(inner), mine.led(inner) * (lot.chain[-1] if lot.chain else mine), inner):
            yield (rest.alike_paper(mine, wish), lambda n, w=wish, r=rest, x=mine: r.is_alike_paper(x, w, ("barred", n)))


class BarTest(unittest.TestCase):
    def test_0_15_just_one_of_both(self):
        found = {"led": 0, "barred": 0}
        for paper, bars in questions(1):
            found[paper[0]] += 1
            if paper[0] == "led":
                for number in (2, 3, 4, 5, 12, 64, 10 ** 20):
                    self.assertIs(bars(number), False)
                continue
            number = paper[1]
            for factor in (1, 2, 3, 10, 7 ** 30):
                self.assertIs(bars(number * factor), True)
            self.assertTrue(any([bars(power) for power in prime_powers(number)]))
            self.assertTrue(any([bars(power) for power in prime_powers(number * 12)]))
        self.assertGreater(min(found.values()), 200)

    def test_0_15_small_moduli(self):
        for paper, bars in questions(2):
            told = {number: bars(number) for number in range(2, 25)}
            for number, is_told in told.items():
                if is_told:
                    self.assertTrue(any([told[power] for power in prime_powers(number)]))
                    self.assertTrue(all([told[more] for more in range(number, 25, number)]))


class SumTest(unittest.TestCase):
    def test_0_16_what_leaves_numbers_as_they_are(self):
        # Row by row, from the last ones on: what the members that keep all ahead add to a number is a sum on them.
        for shape in ((3,), (2, 2), (4,)):
            source = random.Random(3)
            for _ in range(12):
                kept = made_up_lot(source, shape, 3, 3, 0.6)
                numbers = tuple(source.randint(-5, 5) for _ in range(sum(shape)))
                wanted = staying(kept, numbers)
                first = [sum(shape[:block]) for block in range(len(shape))]
                rows = sorted((size - 1 - row, block, first[block] + row)
                              for block, size in enumerate(shape) for row in range(size))
                for _, _, at in rows:
                    values = tuple(done(one, numbers)[at] - numbers[at] for one in kept.makers)
                    self.assertIs(is_sum(kept, values), True)
                    kept = kernel(kept, values)
                self.assertEqual(kept, wanted)

    def test_6_6_lots_of_brackets_and_roots(self):
        found = {True: 0, False: 0}
        for lot in sample_lots(4, 4, 1):
            source = random.Random(4)
            base, inner = sums(lot), lot_of_brackets(lot, lot)
            # There are as many sums as the lot has leads beyond those of its brackets.
            self.assertEqual(len(base), len(lot) - len(inner))
            for stair in lot.chain + (made_up_member(source, lot), made_up_member(source, rooted(inner) & lot)):
                told = [values for values in base if all(is_integer(value) for value in values)]
                if len(told) == len(base):
                    wanted = least_power(inner, stair) is not None
                    found[wanted] += 1
                    self.assertIs(all(sum_at(lot, values, stair) == 0 for values in base), wanted)
            kept = lot
            for values in base:
                if all(is_integer(value) for value in values):
                    kept = kept & kernel(lot, values)
            if all(is_integer(value) for values in base for value in values):
                self.assertEqual(kept, rooted(inner) & lot)
        self.assertGreater(min(found.values()), 20)

    def test_6_5_kinds_and_bases(self):
        # What is left by all brackets tells how many sums there are: one for each 0 in its kind.
        for lot in sample_lots(5, 3, 1):
            kind = Rest(lot, lot_of_brackets(lot, lot)).kind
            self.assertEqual(len([number for number in kind if number == 0]), len(sums(lot)))
            for values in sums(lot):
                if all(is_integer(value) for value in values):
                    self.assertGreater(step(lot, values), 0)


class ProductTest(unittest.TestCase):
    def test_0_17_steps_and_leads(self):
        found = {True: 0, False: 0}
        for one in sample_lots(6, 2, 2, SHAPES[:8]):
            source = random.Random(6)
            for other in (made_up_lot(source, one.shape, 2, 1, 0.4), Lot(one.shape, one.chain[:1]),
                          closure(one, Lot(one.shape, one.chain[:1]))):
                leads = (one | other).leads
                steps = steps_of_sides(one, Stair.one(one.shape), other)
                wanted = steps == tuple(leads.get(place, 0) for place in places(one.shape))
                found[wanted] += 1
                self.assertIs(is_product(one, other), wanted)
                self.assertIs(is_product(other, one), wanted)
        self.assertGreater(min(found.values()), 10)


class MapTest(unittest.TestCase):
    def test_0_18_derivations(self):
        source = random.Random(7)
        maps = 0
        for lot in sample_lots(8, 3, 4, ((2,), (3,), (4,), (2, 3))):
            images = tuple(made_up_stair(source, (3,), 2, 0.4) for _ in lot.makers)
            if not images:
                continue
            if is_map(lot, images):
                maps += 1
                stair = made_up_member(source, lot, 2)
                steps = derivation(lot, stair)
                self.assertEqual(worth((3,), images, steps), LotMap(lot, images)(stair))
                steps = derivation(lot, Stair.one(lot.shape))
                self.assertFalse(worth((3,), images, steps))
            else:
                steps = map_paper(lot, images)[1]
                self.assertFalse(worth(lot.shape, lot.makers, steps))
                self.assertTrue(worth((3,), images, steps))
        self.assertGreater(maps, 5)


class RootTest(unittest.TestCase):
    def test_0_19_lots_that_hold_all_roots(self):
        for lot in sample_lots(9, 4, 1):
            outer = rooted(lot)
            self.assertIs(is_span(lot.shape, span_of(lot)), True)
            self.assertEqual(lot_of_span(lot.shape, span_of(lot)), outer)
            self.assertIsNotNone(lot.index_in(outer))
            # No lot between both is closed under roots.
            for one in outer.chain:
                between = lot | Lot(lot.shape, (one.power(2),))
                self.assertIs(is_rooted(between), between == outer)
                self.assertEqual(rooted(between), outer)

    def test_0_19_what_commutes_and_leads(self):
        for shape in SHAPES:
            source = random.Random(10)
            every = Lot.every(shape)
            x, u = made_up_stair(source, shape, 3, 0.5), made_up_stair(source, shape, 3, 0.5)
            self.assertEqual(commuting(every, (x.power(-4),)), commuting(every, (x,)))
            self.assertEqual(root(x.led(u).power(6), 6), x.led(u))
            self.assertIs(x.power(3).led(u) == x.led(u).power(3), True)


class IndexTest(unittest.TestCase):
    def test_0_20_multiples_of_the_index(self):
        source = random.Random(11)
        for shape in ((2,), (3,), (2, 2), (2, 3), (4,)):
            every = Lot.every(shape)
            for number in (2, 3, 4):
                for inner in lots_of_index(every, number)[:40]:
                    stair = Stair(shape, {place: number * source.randint(-5, 5) for place in places(shape)})
                    self.assertIn(stair, inner)
                    self.assertEqual(Shadow(every, number).size, number * Shadow(inner, number).size)


class FalseStatementTest(unittest.TestCase):
    def test_equal_lead_numbers(self):
        one, other = Lot((3,), (A * B, C)), Lot((3,), (A, C))
        self.assertEqual(one.leads, other.leads)
        self.assertFalse(one == other)

    def test_lead_numbers_of_a_common_part(self):
        one, other = Lot((3,), (A.power(2) * C,)), Lot((3,), (A.power(2),))
        self.assertEqual((one.leads, other.leads, (one & other).leads), ({(0, 0, 1): 2}, {(0, 0, 1): 2}, {}))

    def test_members_modulo_each_prime(self):
        four, two = Lot((2,), (Stair.read("4"),)), Stair.read("2")
        for prime in (2, 3, 5, 7, 11, 13, 9999991):
            self.assertIn(two, Shadow(four, prime))
            self.assertIs(is_bar(four, two, prime), False)
        self.assertNotIn(two, four)
        # 4 bars it, but its prime divisor does not.
        self.assertIs(is_bar(four, two, 4), True)

    def test_kernels_and_makers(self):
        self.assertEqual(kernel(ALL3, (1, 0)).leads, {(0, 1, 2): 1, (0, 0, 2): 1})
        self.assertFalse(kernel(ALL3, (1, 0)) == Lot((3,), (B,)))

    def test_products_of_members(self):
        one, other = Lot((3,), (A,)), Lot((3,), (B,))
        self.assertIs(is_product(one, other), False)
        self.assertEqual(product_paper(one, other)[0], "apart")

    def test_brackets_of_makers(self):
        a, b, c = [Stair.read(text) for text in ("1 0 0/0 0/0", "0 0 0/1 0/0", "0 0 0/0 0/1")]
        few = Lot((4,), (a.bracket(b), b.bracket(c), a.bracket(c)))
        self.assertFalse(lot_of_brackets(Lot.every((4,)), Lot.every((4,))) == few)

    def test_multiples_within_a_lot(self):
        lot = Lot((2, 2), (Stair.read("1; 1"), Stair.read("0; 2")))
        inner = Lot((2, 2), (Stair.read("1; 1"), Stair.read("0; 4")))
        self.assertEqual(inner.index_in(lot), 2)
        self.assertIn(Stair.read("0; 2"), lot)
        self.assertNotIn(Stair.read("0; 2"), inner)

    def test_what_commutes_in_a_joined_lot(self):
        one, other = Lot((3,), (A,)), Lot((3,), (B,))
        made = commuting(one, (A * B,)) | commuting(other, (A * B,))
        self.assertFalse(commuting(one | other, (A * B,)) == made)

    def test_sums_of_logs(self):
        self.assertIsNone(stair_of((3,), tuple(a + b for a, b in zip(log_of(A), log_of(B)))))

    def test_normal_lots_of_normal_lots(self):
        every, flat = ALL3, Lot((3,), (A, C))
        self.assertTrue(is_normal(every, flat) and is_normal(flat, Lot((3,), (A,))))
        self.assertFalse(is_normal(every, Lot((3,), (A,))))

    def test_equal_shadows(self):
        one, other = Lot((2,), (Stair.read("1"),)), Lot((2,), (Stair.read("7"),))
        for number in (2, 3, 5):
            self.assertEqual(Shadow(one, number), Shadow(other, number))
            self.assertEqual(len(shadow_stairs(one, number)), number)
        self.assertFalse(one == other)

    def test_powers_up_to_a_normal_lot(self):
        rest = Rest(ALL3, Lot((3,), (A.power(2), B.power(2), C)))
        self.assertIs(rest.are_alike(A.power(2), B.power(2)), True)
        self.assertIs(rest.are_alike(A, B), False)

    def test_each_of_two_tuples(self):
        # [7.8]: if a lot leads each of two tuples to a wish of its own, one member need not lead both.
        lot = Lot((3,), (A, B))
        one, other = (0, 1, 0), (0, 1, 0)
        self.assertTrue(are_led(lot, one, (1, 1, 0)) and are_led(lot, other, (2, 1, 0)))
        self.assertIs(are_alike(lot, (A, A), (A * C, A)), False)
        self.assertEqual(math.gcd(*lot.leads.values()), 1)


if __name__ == "__main__":
    unittest.main()
