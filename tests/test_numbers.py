"""[7.1] to [7.8], [0.15], [0.16] and the functions of ways of numbers."""

import itertools
import math
import random
import unittest

from stairlots.base.wholes import is_integer
from stairlots.errors import InvalidLot, InvalidOperation, InvalidStair, TooMany
from stairlots.lots.lots import Lot
from stairlots.lots.sums import kernel
from stairlots.stair.stairs import Stair
from stairlots.way import numbers as module
from stairlots.way.numbers import (are_led, done, is_way_paper, least_numbers, staying, steps_along, way_paper)
from tests.helper import (A, ALL3, B, EVEN, LONGEST, SHAPES, TOO_LONG, VALUES, long_single, made_up_member, made_up_stair,
                          sample_lots, small_cases)

LOT = Lot((3,), (A.power(2), B.power(3)))
LARGEST = 10 ** 4000 - 1


def made_up_numbers(source, shape, most=6):
    """One integer for each row."""
    return tuple(source.randint(-most, most) for _ in range(sum(shape)))


def done_by_tables(stair, numbers):
    """What the tables of a stair make of columns of numbers."""
    found, first = [], 0
    for table in stair.tables:
        column = numbers[first:first + len(table)]
        found += [sum(entry * number for entry, number in zip(row, column)) for row in table]
        first += len(table)
    return tuple(found)


def settled(shape):
    """The rows in the order in which they are settled."""
    rows = [(size - 1 - row, block, row) for block, size in enumerate(shape) for row in range(size)]
    return [sum(shape[:block]) + row for _, block, row in sorted(rows)]


def samples(seed, most=5):
    """Lots with numbers of their shapes."""
    source = random.Random(seed)
    for lot in sample_lots(seed, most, 1):
        yield source, lot, made_up_numbers(source, lot.shape)
    for lot in sample_lots(seed + 1, LONGEST, 1, ((2,), (3,), (4,), (2, 3), (6, 2), (2, 2, 2))):
        yield source, lot, made_up_numbers(source, lot.shape, LONGEST)


class ExampleTest(unittest.TestCase):
    def test_constant(self):
        self.assertEqual(module.MAX_DIGITS, 4000)

    def test_document(self):
        shape = (3,)
        a, b = Stair(shape, {(0, 0, 1): 2}), Stair(shape, {(0, 1, 2): 3})
        lot = Lot(shape, (a, b))
        self.assertEqual([done(a, (1, 1, 2)), done(b * a, (1, 1, 2)), steps_along(lot, (1, 1, 2)),
                          least_numbers(lot, (8, 13, 2))], [(3, 1, 2), (3, 7, 2), (2, 6, 0), (0, 1, 2)])
        self.assertEqual([are_led(lot, (1, 1, 2), wish) for wish in ((3, 7, 2), (0, 7, 2), (1, 4, 2), (1, 1, 3))],
                         [True, False, False, False])
        self.assertEqual([is_way_paper(lot, (1, 1, 2), (0, 7, 2), ("barred", n)) for n in (2, 3, 6)], [True, False, True])
        self.assertEqual([is_way_paper(lot, (1, 1, 2), (3, 7, 2), ("led", stair)) for stair in (b * a, a * b)],
                         [True, False])
        self.assertEqual([stair.entries for stair in staying(lot, (1, 1, 2)).chain], [{(0, 0, 1): 12, (0, 0, 2): -6}])


class DoneTest(unittest.TestCase):
    def test_7_1_as_the_tables_do(self):
        source = random.Random(1)
        for shape in SHAPES:
            for most in (5, LONGEST):
                stair, numbers = made_up_stair(source, shape, most), made_up_numbers(source, shape, most)
                self.assertEqual(done(stair, numbers), done_by_tables(stair, numbers))
                self.assertEqual(done(Stair.one(shape), numbers), numbers)
        self.assertEqual(done(Stair.read("2 5/3; 7"), (1, 10, 100, 1000, 10000)), (521, 310, 100, 71000, 10000))

    def test_7_7_products(self):
        source = random.Random(2)
        for shape in SHAPES:
            x, y = made_up_stair(source, shape, 9), made_up_stair(source, shape, 9)
            numbers = made_up_numbers(source, shape)
            self.assertEqual(done(x * y, numbers), done(x, done(y, numbers)))
            self.assertEqual(done(~x, done(x, numbers)), numbers)


class WayTest(unittest.TestCase):
    def test_7_2_members_lead(self):
        for source, lot, numbers in samples(3):
            for _ in range(3):
                wish = done(made_up_member(source, lot, 1), numbers)
                if all(is_integer(number) for number in wish):
                    self.assertIs(are_led(lot, numbers, wish), True)
                    self.assertIs(are_led(lot, wish, numbers), True)
                    self.assertEqual(least_numbers(lot, wish), least_numbers(lot, numbers))
                    self.assertEqual(steps_along(lot, wish), steps_along(lot, numbers))

    def test_7_5_just_one_of_both(self):
        found = {"led": 0, "barred": 0}
        for source, lot, numbers in samples(4):
            for kind in range(4):
                if kind == 0:
                    wish = made_up_numbers(source, lot.shape, 4)
                else:
                    near = Stair.single(lot.shape, (0, 0, 1), kind - 2)
                    wish = done(near * made_up_member(source, lot, 1), numbers)
                if not all(is_integer(number) for number in wish):
                    continue
                paper = way_paper(lot, numbers, wish)
                found[paper[0]] += 1
                self.assertIs(is_way_paper(lot, numbers, wish, paper), True)
                self.assertIs(are_led(lot, numbers, wish), paper[0] == "led")
                self.assertEqual(paper, way_paper(lot, numbers, wish))
                if paper[0] == "led":
                    self.assertEqual(done(paper[1], numbers), wish)
                    self.assertIn(paper[1], lot)
                else:
                    self.assertIs(is_way_paper(lot, numbers, wish, ("barred", paper[1] * 6)), True)
                self.assertEqual(least_numbers(lot, numbers) == least_numbers(lot, wish)
                                 if all(is_integer(number) for number in wish) else None, paper[0] == "led")
        self.assertGreater(min(found.values()), 60)

    def test_7_5_moduli_by_all_members(self):
        source = random.Random(5)
        barred = 0
        for lot, modulus, members in small_cases(6, moduli=(2, 3, 4, 6, 8)):
            for _ in range(3):
                numbers = made_up_numbers(source, lot.shape)
                reached = {tuple(number % modulus for number in done(stair, numbers)) for stair in members}
                for _ in range(4):
                    wish = source.choice([made_up_numbers(source, lot.shape, 3), source.choice(sorted(reached))])
                    wanted = tuple(number % modulus for number in wish) not in reached
                    barred += wanted
                    self.assertIs(is_way_paper(lot, numbers, wish, ("barred", modulus)), wanted)
        self.assertGreater(barred, 100)

    def test_7_3_steps_modulo_small_numbers(self):
        # The members that keep all numbers ahead do so modulo n, too: their changes are multiples of the step modulo n.
        source = random.Random(7)
        for lot, modulus, members in small_cases(8, size=300, moduli=(2, 3, 4, 8)):
            numbers = made_up_numbers(source, lot.shape, 3)
            keeping = members
            for row in settled(lot.shape):
                changes = {(done(stair, numbers)[row] - numbers[row]) % modulus for stair in keeping}
                step = min([change for change in changes if change] + [modulus])
                self.assertEqual(changes, set(range(0, modulus, step)))
                self.assertEqual(steps_along(lot, numbers)[row] % step, 0)
                keeping = [stair for stair in keeping if (done(stair, numbers)[row] - numbers[row]) % modulus == 0]

    def test_7_3_steps_from_row_to_row(self):
        # What keeps all numbers ahead is a kernel of sums; the step is the common divisor of what its members change.
        for source, lot, numbers in samples(9):
            steps = steps_along(lot, numbers)
            keeping = lot
            for row in settled(lot.shape):
                changes = [done(stair, numbers)[row] - numbers[row] for stair in keeping.chain]
                self.assertEqual(math.gcd(*changes), steps[row])
                keeping = keep_row(keeping, numbers, row)
                if keeping is None:
                    break

    def test_7_3_last_rows(self):
        for source, lot, numbers in samples(10):
            steps = steps_along(lot, numbers)
            self.assertIsInstance(steps, tuple)
            self.assertTrue(all(step >= 0 for step in steps))
            ends = list(itertools.accumulate(lot.shape))
            self.assertEqual([steps[end - 1] for end in ends], [0] * len(ends))

    def test_7_4_least_numbers(self):
        for source, lot, numbers in samples(11):
            least = least_numbers(lot, numbers)
            steps = steps_along(lot, numbers)
            self.assertIsInstance(least, tuple)
            self.assertTrue(all(0 <= number < step for number, step in zip(least, steps) if step))
            if all(is_integer(number) for number in least):
                self.assertIs(are_led(lot, numbers, least), True)
                self.assertEqual(least_numbers(lot, least), least)

    def test_7_7_one_tuple_or_endlessly_many(self):
        for source, lot, numbers in samples(12):
            if not any(steps_along(lot, numbers)):
                self.assertEqual(least_numbers(lot, numbers), numbers)
                self.assertEqual(staying(lot, numbers), lot)
            else:
                self.assertIsNone(staying(lot, numbers).index_in(lot))

    def test_no_makers_and_all_stairs(self):
        for shape in SHAPES:
            numbers = tuple(range(3, 3 + sum(shape)))
            none, every = Lot(shape, ()), Lot.every(shape)
            self.assertEqual((least_numbers(none, numbers), steps_along(none, numbers)), (numbers, (0,) * sum(shape)))
            self.assertIs(are_led(none, numbers, numbers), True)
            self.assertEqual(way_paper(none, numbers, numbers), ("led", Stair.one(shape)))
            first = 0
            for size in shape:
                last = numbers[first + size - 1]
                self.assertEqual(steps_along(every, numbers)[first + size - 2:first + size], (last, 0))
                first += size
            zeros = (0,) * sum(shape)
            self.assertEqual((staying(every, zeros), steps_along(every, zeros)), (every, zeros))
            self.assertIs(are_led(every, zeros, zeros[:-1] + (1,)), False)


def keep_row(lot, numbers, row):
    """The members that keep a row, if the lot keeps what is ahead of it; None if the changes are too long."""
    values = tuple(done(stair, numbers)[row] - numbers[row] for stair in lot.chain)
    if not all(is_integer(value) for value in values):
        return None
    # A lot that is a result has its chain as makers.
    return kernel(Lot(lot.shape, ()) | lot, values)


class StayingTest(unittest.TestCase):
    def test_members_that_keep(self):
        for source, lot, numbers in samples(13):
            part = staying(lot, numbers)
            self.assertTrue(part.is_within(lot))
            self.assertEqual(part.makers, part.chain)
            for stair in part.chain:
                self.assertEqual(done(stair, numbers), numbers)
            for _ in range(3):
                stair = made_up_member(source, lot, 2)
                self.assertIs(stair in part, done(stair, numbers) == numbers)
                wish = done(stair, numbers)
                if all(is_integer(number) for number in wish):
                    # [7.7]: a member leads there exactly if it is one such member and one that stays.
                    other = way_paper(lot, numbers, wish)[1]
                    self.assertIn(~other * stair, part)
            if len(part) <= 6:
                self.assertEqual(Lot(lot.shape, part.chain).chain, part.chain)

    def test_7_7_roots_keep(self):
        for source, lot, numbers in samples(14):
            part = staying(lot, numbers)
            for stair in lot.chain[:3] + (made_up_member(source, lot, 1),):
                self.assertIs(stair.power(3) in part, stair in part)

    def test_by_steps_from_place_to_place(self):
        for source, lot, numbers in samples(15):
            keeping = lot
            for row in settled(lot.shape):
                keeping = None if keeping is None else keep_row(keeping, numbers, row)
            if keeping is not None:
                self.assertEqual(staying(lot, numbers), keeping)


class PaperTest(unittest.TestCase):
    def test_every_right_paper(self):
        numbers, wish = (1, 1, 2), (3, 7, 2)
        mover = way_paper(LOT, numbers, wish)[1]
        stay = staying(LOT, numbers)
        for many in range(-5, 6):
            self.assertIs(is_way_paper(LOT, numbers, wish, ("led", mover * stay.chain[0].power(many))), True)
        self.assertIs(is_way_paper(LOT, numbers, wish, ("led", A * mover * ~A)), False)
        for modulus in (2, 4, 6, 2 ** 100, 10 ** 3999):
            self.assertIs(is_way_paper(LOT, numbers, (0, 7, 2), ("barred", modulus)), True)
            self.assertIs(is_way_paper(LOT, numbers, wish, ("barred", modulus)), False)
        self.assertIs(is_way_paper(LOT, numbers, (0, 7, 2), ("barred", LARGEST)), False)
        self.assertIs(is_way_paper(LOT, numbers, (0, 7, 2), ("barred", LARGEST - 1)), True)
        self.assertIs(is_way_paper(LOT, numbers, (0, 7, 2), ("barred", 10 ** 4000)), False)

    def test_nothing_else(self):
        numbers, wish, other = (1, 1, 2), (3, 7, 2), (0, 7, 2)
        mover = B.power(3) * A.power(2)
        self.assertIs(is_way_paper(LOT, numbers, wish, ("led", mover)), True)
        for value in VALUES + (mover, 2, ("led",), ("barred",), ["led", mover], ("led", mover, 1), ("Led", mover),
                               ("led", "1 0/0"), ("led", Stair.one((3, 2))), ("led", 2), (mover, "led"), ("barred", 2, 2),
                               ("led", mover.beside(Stair.one((2,)))), ("barred", mover), {"led": mover}, ("led", (mover,))):
            self.assertIs(is_way_paper(LOT, numbers, wish, value), False)
            self.assertIs(is_way_paper(LOT, numbers, other, value), False)
            self.assertIs(is_way_paper(LOT, numbers, wish, ("barred", value)), False)
            if not (is_integer(value) and value >= 2 and value % 2 == 0) and value != 10 ** 60:
                self.assertIs(is_way_paper(LOT, numbers, other, ("barred", value)),
                              value in (10 ** 99,) and not isinstance(value, bool), repr(value))
        for value in (0, 1, -2, True, "2", 10 ** 4000, 10 ** 5000, None, 3):
            self.assertIs(is_way_paper(LOT, numbers, other, ("barred", value)), False)

    def test_what_is_no_member(self):
        self.assertEqual(done(A, (1, 1, 2)), (2, 1, 2))
        self.assertIs(is_way_paper(EVEN, (1, 1, 2), (2, 1, 2), ("led", A)), False)
        self.assertIs(is_way_paper(ALL3, (1, 1, 2), (2, 1, 2), ("led", A)), True)


class LongTest(unittest.TestCase):
    def test_moduli_of_many_digits(self):
        place = (0, 0, 1)
        lot = Lot((2,), (long_single((2,), place, 8192),))
        self.assertEqual(way_paper(lot, (0, 1), (2, 1))[0], "barred")
        for bits, most in ((150, None), (190, None)):
            lot = Lot((2,), (Stair.single((2,), place, 2 ** bits),))
            paper = way_paper(lot, (0, 1), (2 ** (bits - 1), 1))
            self.assertEqual(paper[1] % 2 ** bits, 0)
            self.assertIs(is_way_paper(lot, (0, 1), (2 ** (bits - 1), 1), paper), True)
            self.assertIs(is_way_paper(lot, (0, 1), (2 ** (bits - 1), 1), ("barred", 2 ** (bits - 1))), False)

    def test_long_steps(self):
        # The step has many digits, but the first number that is looked at bars what is lacking.
        lot = Lot((2,), (long_single((2,), (0, 0, 1), 13000),))
        for many in (1, 2 ** 190):
            paper = way_paper(lot, (0, 1), (many, 1))
            self.assertEqual(paper[0], "barred")
            self.assertIs(is_way_paper(lot, (0, 1), (many, 1), paper), True)
        lot = Lot((3,), (long_single((3,), (0, 0, 1), 8100), long_single((3,), (0, 0, 2), 8199)))
        self.assertEqual(steps_along(lot, (0, 2 ** 101, 1)), (2 ** 8199, 0, 0))

    def test_too_many(self):
        # What the second maker moves must be undone by the first one, whose change is 2 ** 9000.
        step = long_single((2, 2), (0, 0, 1), 9000)
        lot = Lot((2, 2), (step * Stair.single((2, 2), (1, 0, 1), 1), step.power(2)))
        self.assertEqual(steps_along(lot, (0, 1, 0, 1)), (2 ** 9000, 0, 2, 0))
        self.assertEqual(way_paper(lot, (0, 1, 0, 1), (0, 1, 2, 1))[0], "led")
        with self.assertRaises(TooMany) as caught:
            way_paper(lot, (0, 1, 0, 1), (0, 1, 1, 1))
        self.assertEqual(caught.exception.most, 4000)
        self.assertIs(are_led(lot, (0, 1, 0, 1), (0, 1, 1, 1)), False)
        self.assertIs(is_way_paper(lot, (0, 1, 0, 1), (0, 1, 1, 1), ("barred", 2 ** 9001)), True)
        self.assertIs(is_way_paper(lot, (0, 1, 0, 1), (0, 1, 1, 1), ("barred", 2 ** 9000)), False)

    def test_sixty_digits(self):
        numbers = (LONGEST, -LONGEST, LONGEST)
        self.assertEqual(steps_along(ALL3, numbers), (LONGEST, LONGEST, 0))
        self.assertEqual(least_numbers(ALL3, numbers), (0, 0, LONGEST))
        lot = Lot((3,), (A.power(LONGEST), B.power(LONGEST)))
        self.assertEqual(least_numbers(lot, numbers)[1:], (LONGEST ** 2 - LONGEST, LONGEST))
        self.assertEqual(steps_along(lot, numbers)[1], LONGEST ** 2)
        self.assertIn(least_numbers(lot, numbers)[0], range(steps_along(lot, numbers)[0]))


class FalseStatementTest(unittest.TestCase):
    def test_7_8_each_prime(self):
        lot = Lot((2,), (Stair.read("4"),))
        self.assertIs(are_led(lot, (0, 1), (2, 1)), False)
        for prime in (2, 3, 5, 7, 11):
            self.assertIs(is_way_paper(lot, (0, 1), (2, 1), ("barred", prime)), False)
        self.assertIs(is_way_paper(lot, (0, 1), (2, 1), ("barred", 4)), True)

    def test_7_8_equal_ways_of_unlike_lots(self):
        a, b, c, d = [Stair.single((4,), place, 1) for place in ((0, 0, 2), (0, 0, 3), (0, 1, 2), (0, 1, 3))]
        one, other = Lot((4,), (a, b, c, d)), Lot((4,), (a * ~d, b, c))
        self.assertFalse(one == other)
        source = random.Random(16)
        for _ in range(100):
            numbers, wish = made_up_numbers(source, (4,), 9), made_up_numbers(source, (4,), 9)
            self.assertEqual(least_numbers(one, numbers), least_numbers(other, numbers))
            self.assertEqual(steps_along(one, numbers), steps_along(other, numbers))
            self.assertIs(are_led(one, numbers, wish), are_led(other, numbers, wish))

    def test_7_8_one_member_for_two_wishes(self):
        lot = Lot((2,), (Stair.read("1"),))
        self.assertTrue(are_led(lot, (0, 1), (1, 1)) and are_led(lot, (0, 2), (4, 2)))
        self.assertNotEqual(way_paper(lot, (0, 1), (1, 1))[1], way_paper(lot, (0, 2), (4, 2))[1])


class WrongTest(unittest.TestCase):
    two = (lambda lot, numbers: staying(lot, numbers), lambda lot, numbers: steps_along(lot, numbers),
           lambda lot, numbers: least_numbers(lot, numbers))
    three = (are_led, way_paper, lambda lot, numbers, wish: is_way_paper(lot, numbers, wish, None))
    wrong = VALUES + ((1, 2), (1, 2, 3, 4), [1, 2, 3], (1, 2, TOO_LONG), (1, 2, True), (None, 1, 2), (1, (2,), 3), {1: 2})

    def test_lots(self):
        for value in VALUES:
            if not isinstance(value, Lot):
                for call in self.two:
                    self.assertRaises(InvalidLot, call, value, None)
                for call in self.three:
                    self.assertRaises(InvalidLot, call, value, None, None)
            if not isinstance(value, Stair):
                self.assertRaises(InvalidStair, done, value, None)

    def test_numbers(self):
        for value in self.wrong:
            if value in ((0, 0, 1), (0, 1, 2)):
                continue
            self.assertRaises(InvalidOperation, done, A, value)
            for call in self.two:
                self.assertRaises(InvalidOperation, call, ALL3, value)
            for call in self.three:
                self.assertRaises(InvalidOperation, call, ALL3, value, None)
                self.assertRaises(InvalidOperation, call, ALL3, (1, 2, 3), value)
        self.assertRaises(InvalidOperation, done, Stair.one((2, 3)), (1, 2, 3))


if __name__ == "__main__":
    unittest.main()
