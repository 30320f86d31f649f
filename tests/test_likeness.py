"""[8.1] to [8.7], [0.15], [0.16], [0.21] and the functions of likeness."""

import itertools
import math
import random
import unittest

from stairlots.base.shapes import places
from stairlots.base.wholes import is_integer
from stairlots.errors import InvalidLot, InvalidOperation, InvalidStair, TooMany
from stairlots.lots.lots import Lot
from stairlots.lots.sums import kernel
from stairlots.shadow.shadows import Shadow
from stairlots.stair.stairs import Stair
from stairlots.way import likeness
from stairlots.way.likeness import (alike_paper, are_alike, commuting, is_alike_paper, least_alike, steps_of, way_size)
from tests.helper import (A, ALL3, B, C, EVEN, LONGEST, SHAPES, VALUES, long_single, made_up_lot, made_up_member,
                          made_up_stair, rest_of, sample_lots, small_cases, wrong_members)

LARGEST = 10 ** 4000 - 1


def made_up_tuple(source, shape, most=4):
    """One to three stairs."""
    return tuple(made_up_stair(source, shape, most, source.choice((0.4, 1))) for _ in range(source.randint(1, 3)))


def samples(seed, most=4):
    """Lots with tuples of stairs of their shapes."""
    source = random.Random(seed)
    for lot in sample_lots(seed, most, 1):
        yield source, lot, made_up_tuple(source, lot.shape)
    for lot in sample_lots(seed + 1, LONGEST, 1, ((2,), (3,), (4,), (2, 3), (6, 2), (2, 2, 2))):
        yield source, lot, made_up_tuple(source, lot.shape, LONGEST)


def led_by(stair, stairs):
    """The tuple to which a stair leads another one."""
    return tuple(stair * one * ~stair for one in stairs)


def numbers_of(stairs):
    """The numbers of a tuple [8.2]."""
    return [stair.entries.get(place, 0) for place in places(stairs[0].shape) for stair in stairs]


def rests(stairs, modulus):
    """The entries of a tuple modulo an integer."""
    return tuple(rest_of(stair, modulus) for stair in stairs)


class ExampleTest(unittest.TestCase):
    def test_constants(self):
        self.assertEqual((likeness.MAX_TUPLE, likeness.MAX_DIGITS), (3, 4000))

    def test_document(self):
        every = Lot.every((3,))
        x, y = Stair((3,), {(0, 0, 1): 2}), Stair((3,), {(0, 0, 1): 2, (0, 0, 2): 4})
        z = Stair((3,), {(0, 1, 2): 1})
        self.assertEqual([are_alike(every, (x,), (other,)) for other in (y, y * x, ~x)], [True, False, False])
        self.assertEqual([steps_of(every, (x,)), least_alike(every, (y,)) == (x,), steps_of(every, (x, z))],
                         [(0, 0, 2), True, (0, 0, 0, 0, 2, 1)])
        other = Stair((3,), {(0, 0, 1): 2, (0, 0, 2): 1})
        self.assertEqual([is_alike_paper(every, (x,), (other,), ("barred", n)) for n in (2, 3)], [True, False])
        self.assertEqual([stair.entries for stair in commuting(every, (x,)).chain], [{(0, 0, 1): 1}, {(0, 0, 2): 1}])
        self.assertEqual([way_size(Shadow(every, n), (x,)) for n in (2, 3, 4)], [1, 3, 2])


class AlikeTest(unittest.TestCase):
    def test_8_1_what_members_lead(self):
        for source, lot, stairs in samples(1):
            mover = made_up_member(source, lot, 2)
            others = led_by(mover, stairs)
            self.assertIs(are_alike(lot, stairs, others), True)
            self.assertIs(are_alike(lot, others, stairs), True)
            paper = alike_paper(lot, stairs, others)
            self.assertEqual(paper[0], "led")
            self.assertIs(is_alike_paper(lot, stairs, others, paper), True)
            self.assertIs(is_alike_paper(lot, stairs, others, ("led", mover)), True)
            self.assertEqual(least_alike(lot, stairs), least_alike(lot, others))
            self.assertEqual(steps_of(lot, stairs), steps_of(lot, others))

    def test_8_4_just_one_of_both(self):
        found = {"led": 0, "barred": 0}
        for source, lot, stairs in samples(2):
            for kind in range(3):
                others = list(led_by(made_up_member(source, lot, 2), stairs))
                at = source.randrange(len(others))
                if kind:
                    others[at] = others[at] * source.choice(Lot.every(lot.shape).chain[-2:]).power(source.choice((1, 2, 12)))
                if kind == 2:
                    others = list(led_by(made_up_stair(source, lot.shape, 2), stairs))
                others = tuple(others)
                paper = alike_paper(lot, stairs, others)
                found[paper[0]] += 1
                self.assertIs(is_alike_paper(lot, stairs, others, paper), True)
                self.assertIs(are_alike(lot, stairs, others), paper[0] == "led")
                self.assertIs(least_alike(lot, stairs) == least_alike(lot, others), paper[0] == "led")
                self.assertEqual(paper, alike_paper(lot, stairs, others))
                if paper[0] == "barred":
                    self.assertIs(is_alike_paper(lot, stairs, others, ("barred", 5 * paper[1])), True)
        self.assertGreater(min(found.values()), 80)

    def test_8_4_moduli_by_all_members(self):
        source = random.Random(3)
        barred = 0
        for lot, modulus, members in small_cases(4, moduli=(2, 3, 4, 6, 8)):
            for _ in range(2):
                stairs = made_up_tuple(source, lot.shape)
                reached = {rests(led_by(stair, stairs), modulus) for stair in members}
                for kind in range(4):
                    others = led_by(made_up_stair(source, lot.shape, 2), stairs)
                    if kind == 0:
                        others = led_by(source.choice(members), stairs)
                    wanted = rests(others, modulus) not in reached
                    barred += wanted
                    self.assertIs(is_alike_paper(lot, stairs, others, ("barred", modulus)), wanted)
                self.assertEqual(way_size(Shadow(lot, modulus), stairs), len(reached))
        self.assertGreater(barred, 60)

    def test_8_3_least_tuples(self):
        for source, lot, stairs in samples(5):
            least = least_alike(lot, stairs)
            self.assertEqual(len(least), len(stairs))
            for number, step in zip(numbers_of(least), steps_of(lot, stairs)):
                self.assertTrue(0 <= number < step or step == 0)
            self.assertIs(are_alike(lot, stairs, least), True)
            self.assertEqual(least_alike(lot, least), least)

    def test_8_2_steps_from_number_to_number(self):
        for source, lot, stairs in samples(6):
            steps = iter(steps_of(lot, stairs))
            keeping = lot
            for place, stair in itertools.product(places(lot.shape), stairs):
                changes = [one.bracket(stair) * stair for one in keeping.chain] if keeping is not None else []
                changes = [other.entries.get(place, 0) - stair.entries.get(place, 0) for other in changes]
                step = next(steps)
                if keeping is None:
                    continue
                self.assertEqual(math.gcd(*changes), step)
                if not all(is_integer(change) for change in changes):
                    keeping = None
                elif any(changes):
                    keeping = kernel(Lot(lot.shape, ()) | keeping, tuple(changes))
            self.assertEqual(list(steps), [])
            if keeping is not None:
                self.assertEqual(commuting(lot, stairs), keeping)

    def test_no_makers(self):
        for shape in SHAPES:
            lot = Lot(shape, ())
            stair = made_up_stair(random.Random(7), shape, 9)
            self.assertEqual(alike_paper(lot, (stair,), (stair,)), ("led", Stair.one(shape)))
            self.assertIs(are_alike(lot, (stair,), (stair * Lot.every(shape).chain[0],)), False)
            self.assertEqual(steps_of(lot, (stair, stair)), (0,) * (2 * len(places(shape))))
            self.assertEqual((least_alike(lot, (stair,)), commuting(lot, (stair,))), ((stair,), lot))
            self.assertEqual(way_size(Shadow(lot, 6), (stair,)), 1)

    def test_tuples_of_one_stair_and_of_ones(self):
        for shape in SHAPES:
            one, every = Stair.one(shape), Lot.every(shape)
            self.assertEqual(commuting(every, (one, one, one)), every)
            self.assertEqual(commuting(every, every.chain[:3]) == every, max(shape) == 2)
            self.assertIs(are_alike(every, (one,), (every.chain[-1],)), False)


class CommutingTest(unittest.TestCase):
    def test_members_that_commute(self):
        for source, lot, stairs in samples(8):
            part = commuting(lot, stairs)
            self.assertTrue(part.is_within(lot))
            self.assertEqual(part.makers, part.chain)
            self.assertTrue(all(one * stair == stair * one for one in part.chain for stair in stairs))
            for _ in range(3):
                one = made_up_member(source, lot, 2)
                self.assertIs(one in part, all(one * stair == stair * one for stair in stairs))
            if len(part) <= 6:
                self.assertEqual(Lot(lot.shape, part.chain).chain, part.chain)

    def test_8_6_powers(self):
        for source, lot, stairs in samples(9):
            part = commuting(lot, stairs)
            powers = tuple(stair.power(source.choice((-2, 3))) for stair in stairs)
            self.assertEqual(commuting(lot, powers), part)
            mover = made_up_member(source, lot, 2)
            self.assertIs(mover.power(2) in part, mover in part)
            self.assertIs(are_alike(lot, powers, led_by(mover, powers)), True)
            paper = alike_paper(lot, tuple(stair.power(2) for stair in stairs),
                                tuple(stair.power(2) for stair in led_by(mover, stairs)))
            self.assertIs(is_alike_paper(lot, stairs, led_by(mover, stairs), paper), True)

    def test_8_6_other_powers(self):
        for source, lot, stairs in samples(10):
            if stairs[0]:
                for many in (-1, 0, 2):
                    self.assertIs(are_alike(lot, stairs[:1], (stairs[0].power(many),)), False)

    def test_8_6_the_members_that_lead(self):
        for source, lot, stairs in samples(11):
            mover = made_up_member(source, lot, 2)
            found = alike_paper(lot, stairs, led_by(mover, stairs))[1]
            self.assertIn(~found * mover, commuting(lot, stairs))


class WaySizeTest(unittest.TestCase):
    def test_8_6_size_of_the_shadow(self):
        source = random.Random(12)
        for lot, modulus, members in small_cases(13, moduli=(2, 3, 4, 8, 9)):
            stairs = made_up_tuple(source, lot.shape)
            keeping = [one for one in members if rests(led_by(one, stairs), modulus) == rests(stairs, modulus)]
            shadow = Shadow(lot, modulus)
            self.assertEqual(way_size(shadow, stairs) * len(keeping), shadow.size)

    def test_large_moduli(self):
        for shape in ((3,), (6, 2)):
            every = Lot.every(shape)
            stairs = (Stair.single(shape, (0, 0, 1), 1),)
            for modulus in (LARGEST, 10 ** 3999, 6 ** 5000):
                size = way_size(Shadow(every, modulus), stairs)
                self.assertEqual(size, modulus ** (shape[0] - 2))
        x = Stair.single((3,), (0, 0, 1), 2 ** 100)
        self.assertEqual(way_size(Shadow(ALL3, 2 ** 13000), (x,)), 2 ** 12900)

    def test_equal_shadows_have_equal_sizes(self):
        x = made_up_stair(random.Random(14), (3,), 9)
        self.assertTrue(Shadow(EVEN, 3) == Shadow(ALL3, 3))
        self.assertEqual(way_size(Shadow(EVEN, 3), (x, x * A)), way_size(Shadow(ALL3, 3), (x, x * A)))

    def test_wrong_values(self):
        for value in VALUES:
            if not isinstance(value, Shadow):
                self.assertRaises(InvalidOperation, way_size, value, None)
            if value not in ((A, B), (A,)):
                self.assertRaises(InvalidStair, way_size, Shadow(ALL3, 2), value)
        for value in wrong_members((3,)):
            self.assertRaises(InvalidStair, way_size, Shadow(ALL3, 2), (A, value))
        self.assertRaises(InvalidStair, way_size, Shadow(ALL3, 2), (A,) * 4)


class PaperTest(unittest.TestCase):
    def test_every_right_paper(self):
        x = A.power(2)
        y = x * C.power(4)
        for many in range(-3, 4):
            self.assertIs(is_alike_paper(ALL3, (x,), (y,), ("led", B.power(-2) * A.power(many) * C.power(5))), True)
            self.assertIs(is_alike_paper(EVEN, (x,), (y,), ("led", B.power(-2) * A.power(many))), many % 2 == 0)
        for modulus in (2, 6, 10 ** 3999):
            self.assertIs(is_alike_paper(ALL3, (x,), (x * C,), ("barred", modulus)), True)
            self.assertIs(is_alike_paper(ALL3, (x,), (y,), ("barred", modulus)), False)
        for modulus in (3, LARGEST, 10 ** 4000, 2 ** 20000, 0, 1, -2, True, False, None, "2", 2 ** 100 + 1):
            self.assertIs(is_alike_paper(ALL3, (x,), (x * C,), ("barred", modulus)), False)

    def test_nothing_else(self):
        x, mover = A.power(2), B.power(-2)
        y = led_by(mover, (x,))[0]
        self.assertIs(is_alike_paper(ALL3, (x,), (y,), ("led", mover)), True)
        for value in VALUES + (mover, ("led",), ("barred",), ["led", mover], ("led", mover, mover), ("Led", mover),
                               (mover, "led"), ("led", mover.beside(Stair.one((2,)))), {"led": mover}, ("led", (mover,))):
            self.assertIs(is_alike_paper(ALL3, (x,), (y,), value), False)
            self.assertIs(is_alike_paper(ALL3, (x,), (x * C,), value), False)
            self.assertIs(is_alike_paper(ALL3, (x,), (y,), ("led", value)), isinstance(value, Stair) and value == mover)
            self.assertIs(is_alike_paper(ALL3, (x,), (y,), ("barred", value)), False)
        self.assertIs(is_alike_paper(ALL3, (x, B), (y, B * C.power(3)), ("led", mover)), False)
        self.assertIs(is_alike_paper(ALL3, (x, B), (y, B), ("led", mover)), True)


class LongTest(unittest.TestCase):
    def test_moduli_of_many_digits(self):
        x = long_single((3,), (0, 0, 1), 8192)
        step = long_single((3,), (0, 0, 2), 8191)
        paper = alike_paper(ALL3, (x,), (x * step,))
        self.assertEqual((paper[0], paper[1] % 2 ** 8192), ("barred", 0))
        self.assertIs(is_alike_paper(ALL3, (x,), (x * step,), paper), True)
        self.assertIs(is_alike_paper(ALL3, (x,), (x * step,), ("barred", 2 ** 8191)), False)

    def test_too_many(self):
        x = long_single((3,), (0, 0, 1), 8193)
        step = long_single((3,), (0, 0, 2), 8192)
        with self.assertRaises(TooMany) as caught:
            alike_paper(ALL3, (x,), (x * step,))
        self.assertEqual(caught.exception.most, 4000)
        self.assertIs(are_alike(ALL3, (x,), (x * step,)), False)
        self.assertIs(are_alike(ALL3, (x,), (x * step.power(2),)), True)
        self.assertIs(is_alike_paper(ALL3, (x,), (x * step,), ("barred", 2 ** 8193)), True)
        self.assertIs(is_alike_paper(ALL3, (x,), (x * step,), ("barred", 2 ** 8192)), False)


class FalseStatementTest(unittest.TestCase):
    def test_8_7_one_by_one(self):
        every = Lot.every((3,))
        x, y = A, A * B.power(0)
        self.assertTrue(are_alike(every, (x,), (x * C,)) and are_alike(every, (y,), (y,)))
        self.assertFalse(are_alike(every, (x, y), (x * C, y)))

    def test_8_7_each_prime(self):
        x, y = A.power(4), A.power(4) * C.power(2)
        self.assertFalse(are_alike(ALL3, (x,), (y,)))
        for prime in (2, 3, 5, 7, 11):
            self.assertIs(is_alike_paper(ALL3, (x,), (y,), ("barred", prime)), False)
        self.assertIs(is_alike_paper(ALL3, (x,), (y,), ("barred", 4)), True)

    def test_8_7_lots_of_finite_index(self):
        inner = Lot((3,), (A, B.power(2)))
        self.assertEqual(inner.index_in(ALL3), 4)
        self.assertTrue(are_alike(ALL3, (A,), (A * C,)))
        self.assertFalse(are_alike(inner, (A,), (A * C,)))

    def test_8_7_joined_lots(self):
        # A * B commutes with itself in the joined lot; nothing of A alone or of B alone does.
        one, other = Lot((3,), (A,)), Lot((3,), (B,))
        self.assertEqual((len(commuting(one, (A * B,))), len(commuting(other, (A * B,)))), (0, 0))
        self.assertEqual(len(commuting(one | other, (A * B,))), 2)


class WrongTest(unittest.TestCase):
    two = (lambda lot, stairs: commuting(lot, stairs), lambda lot, stairs: steps_of(lot, stairs),
           lambda lot, stairs: least_alike(lot, stairs))
    three = (are_alike, alike_paper, lambda lot, stairs, others: is_alike_paper(lot, stairs, others, None))
    wrong = VALUES + ((), (A,) * 4, [A], (A, None), (A, "x"), ((A,),), {A.numbers: A}, (Stair.one((4,)),))

    def test_lots(self):
        for value in VALUES:
            if not isinstance(value, Lot):
                for call in self.two:
                    self.assertRaises(InvalidLot, call, value, None)
                for call in self.three:
                    self.assertRaises(InvalidLot, call, value, None, None)

    def test_tuples(self):
        for value in self.wrong:
            if value == (A, B):
                continue
            for call in self.two:
                self.assertRaises(InvalidStair, call, EVEN, value)
            for call in self.three:
                self.assertRaises(InvalidStair, call, EVEN, value, None)
                self.assertRaises(InvalidStair, call, EVEN, (A, B), value)
        for value in wrong_members((3,)):
            for call in self.three:
                self.assertRaises(InvalidStair, call, EVEN, (A, value), (A, B))
                self.assertRaises(InvalidStair, call, EVEN, (A, B), (value, B))
        for call in self.three:
            self.assertRaises(InvalidStair, call, EVEN, (A, B), (A,))
            self.assertRaises(InvalidStair, call, EVEN, (A,), (A, B))
            self.assertRaises(InvalidStair, call, EVEN, (A, B, C), (A, B, C, A))

    def test_four_makers_and_more(self):
        source = random.Random(15)
        lot = made_up_lot(source, (6, 2), 9, 6)
        stairs = tuple(made_up_stair(source, (6, 2), 9) for _ in range(3))
        self.assertIs(are_alike(lot, stairs, led_by(made_up_member(source, lot), stairs)), True)


if __name__ == "__main__":
    unittest.main()
