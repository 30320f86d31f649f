"""[4.1] to [4.3], [0.18] and the functions of derivations."""

import random
import unittest
import unittest.mock

from stairlots.base.shapes import is_shape, places
from stairlots.errors import InvalidLot, InvalidOperation, InvalidShape, InvalidStair, TooMany
from stairlots.lots import derivations
from stairlots.lots.derivations import derivation, is_derivation, worth
from stairlots.lots.lots import Lot
from stairlots.stair.stairs import Stair
from tests.helper import (A, ALL3, B, C, EVEN, LONGEST, VALUES, made_up_lot, made_up_member, made_up_stair, sample_lots)

STEPS = (("maker", 0), ("maker", 1), ("bracket", 0, 1), ("product", ((2, 3), (0, -1))))
SMALL_SHAPES = ((2,), (3,), (4,), (2, 3), (3, 3), (2, 2, 2), (2, 2, 3), (3, 2))

WRONG_STEPS = (
    ("maker", 2), ("maker", -1), ("maker", True), ("maker", False), ("maker", None), ("maker",), ("maker", 0, 0),
    ("maker", 10 ** 99), ("maker", "0"), ("maker", (0,)), ["maker", 0], ("makers", 0), ("Maker", 0), (0, 0), (None, 0),
    (), "maker", ("product", 0), ("product", (0, 1)), ("product", ((1, 1),)), ("product", ((-1, 1),)),
    ("product", ((0, True),)), ("product", ((False, 1),)), ("product", ((0, 1, 1),)), ("product", ((0,),)),
    ("product", [(0, 1)]), ("product", ([0, 1],)), ("product", ((0, None),)), ("product", ((0, 1), None)), ("product",),
    ("product", (), ()), ("bracket", 0), ("bracket", 0, 1), ("bracket", 1, 0), ("bracket", -1, 0),
    ("bracket", 0, False), ("bracket", 0, 0, 0), ("bracket", (0, 0)), ("brackets", 0, 0),
    ("maker", 0, 0), ("product", 0, 0), (None, 0, 0), ("bracket", "0", 0), ("bracket", 0, 10 ** 99),
    ("product", ((10 ** 99, 1),)), ("product", {(0, 1): 1}), ("product", "ab"), (("maker",), 0), A, None, {},
)


def worth_by_stairs(shape, stairs, steps):
    """The worth by stairs alone, for steps without long exponents."""
    worths = [Stair.one(shape)]
    for step in steps:
        if step[0] == "maker":
            worths.append(stairs[step[1]])
        elif step[0] == "bracket":
            worths.append(worths[step[1] + 1].bracket(worths[step[2] + 1]))
        else:
            made = Stair.one(shape)
            for index, many in step[1]:
                made = made * worths[index + 1].power(many)
            worths.append(made)
    return worths[-1]


def made_up_steps(source, many, count):
    """So many steps from so many stairs."""
    steps = []
    for at in range(count):
        kind = source.choice(("maker", "product", "bracket")) if at else "product"
        if kind == "maker" and many:
            steps.append(("maker", source.randrange(many)))
        elif kind == "bracket":
            steps.append(("bracket", source.randrange(at), source.randrange(at)))
        else:
            pairs = [(source.randrange(at), source.randint(-3, 3)) for _ in range(source.randint(0, 3)) if at]
            steps.append(("product", tuple(pairs)))
    return tuple(steps)


class WorthTest(unittest.TestCase):
    def test_example_and_constant(self):
        self.assertEqual(derivations.MAX_STEPS, 3000)
        self.assertEqual([str(worth((3,), EVEN.makers, STEPS)), str(worth((3,), (A, B), STEPS)), str(worth((3,), (), ()))],
                         ["-2 6/0", "-1 3/0", "0 0/0"])

    def test_4_2_each_kind_of_step(self):
        self.assertEqual(worth((3,), (A, B), (("maker", 1),)), B)
        self.assertEqual(worth((3,), (A, B), (("maker", 1), ("maker", 0))), A)
        self.assertEqual(worth((3,), (A, B), (("product", ()),)), Stair.one((3,)))
        ahead = (("maker", 0), ("maker", 1))
        self.assertEqual(worth((3,), (A, B), ahead + (("product", ((1, 2), (0, 1), (1, -2))),)),
                         B.power(2) * A * B.power(-2))
        self.assertEqual(worth((3,), (A, B), ahead + (("bracket", 1, 0),)), ~C)
        self.assertEqual(worth((3,), (A, B), ahead + (("bracket", 0, 0),)), Stair.one((3,)))
        self.assertEqual(worth((3,), (A, B), ahead + (("product", ((0, 0), (0, 1), (0, 1))),)), A.power(2))
        self.assertEqual(worth((6, 2), (), ()), Stair.one((6, 2)))

    def test_4_2_made_up_steps(self):
        source = random.Random(1)
        for shape in SMALL_SHAPES + ((6,), (6, 2)):
            for many in (0, 1, 3, 16):
                stairs = tuple(made_up_stair(source, shape, 3) for _ in range(many))
                steps = made_up_steps(source, many, 12)
                self.assertEqual(worth(shape, stairs, steps), worth_by_stairs(shape, stairs, steps))

    def test_integers_of_any_length(self):
        steps = (("maker", 0), ("product", ((0, 10 ** 1000),)))
        self.assertEqual(worth((3,), (A,), steps).numbers, (10 ** 1000, 0, 0))
        self.assertRaises(InvalidOperation, worth, (3,), (A,), (("maker", 10 ** 1000),))
        self.assertRaises(InvalidOperation, worth, (3,), (A,), (("maker", 0), ("product", ((10 ** 1000, 1),))))

    def test_three_thousand_steps(self):
        steps = (("maker", 0),) + tuple(("product", ((at, 1), (0, 1))) for at in range(2999))
        self.assertEqual(worth((3,), (A,), steps), A.power(3000))
        self.assertRaises(InvalidOperation, worth, (3,), (A,), steps + (("maker", 0),))

    def test_many_products(self):
        x = Stair((2,), {(0, 0, 1): 1})
        steps = (("maker", 0),) + (("product", ((0, 3), (0, -3))),) * 2999
        self.assertEqual(worth((2,), (x,), steps), Stair.one((2,)))
        self.assertIs(is_derivation(Lot((2,), (x,)), Stair.one((2,)), steps), True)
        self.assertIs(is_derivation(Lot((2,), (x,)), x, steps), False)
        for shape in ((2,), (3,), (2, 2), (6, 2)):
            x = made_up_stair(random.Random(6), shape, 3)
            steps = (("maker", 0),) + tuple(("product", ((0, at), (at % 7, 3), (0, 3))) for at in range(7, 40))
            self.assertEqual(worth(shape, (x,), (("maker", 0),) * 7 + steps[1:]), x.power(45))
            self.assertEqual(worth(shape, (x,), (("maker", 0),) * 7 + steps[1:]),
                             worth_by_stairs(shape, (x,), (("maker", 0),) * 7 + steps[1:]))

    def test_powers_that_come_again(self):
        # More powers than are kept: those that are not kept are made anew.
        with unittest.mock.patch.object(derivations, "_MOST_POWERS", 2):
            source = random.Random(7)
            stairs = tuple(made_up_stair(source, (4,), 3) for _ in range(2))
            for _ in range(20):
                steps = made_up_steps(source, 2, 12)
                self.assertEqual(worth((4,), stairs, steps), worth_by_stairs((4,), stairs, steps))

    def test_wrong_values(self):
        for value in VALUES:
            if not is_shape(value):
                self.assertRaises(InvalidShape, worth, value, None, None)
            if value != () and value != (A, B):
                self.assertRaises(InvalidStair, worth, (3,), value, None)
            if not isinstance(value, Stair) or value.shape != (3,):
                self.assertRaises(InvalidStair, worth, (3,), (A, value), ())
            if value != ():
                self.assertRaises(InvalidOperation, worth, (3,), (A, B), value)
            if value != ("maker", 0):
                self.assertRaises(InvalidOperation, worth, (3,), (A, B), (value,))
        self.assertRaises(InvalidStair, worth, (3,), (A,) * 17, None)
        self.assertEqual(worth((3,), (A,) * 16, (("maker", 15),)), A)
        self.assertRaises(InvalidOperation, worth, (3,), (A,) * 16, (("maker", 16),))

    def test_wrong_steps(self):
        for step in WRONG_STEPS:
            self.assertRaises(InvalidOperation, worth, (3,), (A, B), (("maker", 0), step))
        self.assertRaises(InvalidOperation, worth, (3,), (A, B), [("maker", 0)])
        self.assertRaises(InvalidOperation, worth, (3,), (A, B), (("bracket", 0, 0),))
        self.assertRaises(InvalidOperation, worth, (3,), (), (("maker", 0),))
        self.assertRaises(InvalidOperation, worth, (3,), (A, B), (("product", ((1, 1),)), ("maker", 0)))


class DerivationTest(unittest.TestCase):
    def test_4_3_each_member_has_one(self):
        source = random.Random(2)
        for lot in sample_lots(3, 9, 1) + sample_lots(4, 10 ** 20, 1):
            stairs = [Stair.one(lot.shape), made_up_member(source, lot)] + list(lot.chain)[-2:] + list(lot.makers)[:1]
            for stair in stairs:
                steps = derivation(lot, stair)
                self.assertLessEqual(len(steps), 3000)
                self.assertEqual(worth(lot.shape, lot.makers, steps), stair)
                self.assertIs(is_derivation(lot, stair, steps), True)

    def test_never_too_many_steps_for_small_lots(self):
        source = random.Random(5)
        for shape in SMALL_SHAPES * 4:
            lot = made_up_lot(source, shape, 9, source.randint(0, 3), source.choice((0.3, 0.7, 1)))
            self.assertLessEqual(len(places(shape)), 6)
            stair = lot.member(tuple(source.randint(1 - 10 ** 20, 10 ** 20 - 1) for _ in lot.chain))
            self.assertIs(is_derivation(lot, stair, derivation(lot, stair)), True)

    def test_lots_that_are_results(self):
        for lot in (Lot.every((6, 2)), EVEN | Lot((3,), (A.power(3),)), EVEN & ALL3):
            stair = lot.member(tuple(range(-2, len(lot) - 2)))
            self.assertIs(is_derivation(lot, stair, derivation(lot, stair)), True)

    def test_long_entries(self):
        lot = Lot((3,), (A.power(LONGEST), B.power(LONGEST - 1)))
        stair = lot.chain[2].power(LONGEST)
        self.assertIs(is_derivation(lot, stair, derivation(lot, stair)), True)

    def test_equal_calls_have_equal_results(self):
        self.assertEqual(derivation(EVEN, C.power(4)), derivation(Lot((3,), (A.power(2), B)), C.power(4)))

    def test_too_many_steps(self):
        # Lots that need so many steps are out of reach here: the limit is put lower.
        steps = derivation(EVEN, C.power(4))
        with unittest.mock.patch.object(derivations, "MAX_STEPS", len(steps)):
            self.assertEqual(derivation(EVEN, C.power(4)), steps)
        with unittest.mock.patch.object(derivations, "MAX_STEPS", len(steps) - 1):
            with self.assertRaises(TooMany) as caught:
                derivation(EVEN, C.power(4))
            self.assertEqual(caught.exception.most, len(steps) - 1)
            self.assertRaises(InvalidOperation, derivation, EVEN, C)

    def test_what_is_no_member(self):
        self.assertRaises(InvalidOperation, derivation, EVEN, C)
        self.assertRaises(InvalidOperation, derivation, Lot((3,), ()), A)

    def test_wrong_values(self):
        for value in VALUES:
            for call in (derivation, lambda lot, stair: is_derivation(lot, stair, ())):
                if not isinstance(value, Lot):
                    self.assertRaises(InvalidLot, call, value, None)
                if not isinstance(value, Stair) or value.shape != (3,):
                    self.assertRaises(InvalidStair, call, EVEN, value)


class JudgingTest(unittest.TestCase):
    def test_example(self):
        self.assertEqual([is_derivation(EVEN, C.power(2), STEPS[:3]), is_derivation(EVEN, C, STEPS[:3]),
                          is_derivation(EVEN, Stair.one((3,)), ())], [True, False, True])

    def test_every_right_value(self):
        two = (("maker", 0), ("maker", 1))
        for steps in (two + (("bracket", 0, 1),), two + (("bracket", 1, 0), ("product", ((2, -1),))),
                      two + (("product", ((0, 1), (1, 1), (0, -1), (1, -1))),),
                      (("maker", 1),) + two + (("bracket", 1, 0), ("product", ((3, 10 ** 70), (3, 1 - 10 ** 70)))),
                      two + (("product", ()), ("bracket", 0, 1), ("product", ((2, 5), (3, 1))))):
            self.assertIs(is_derivation(EVEN, C.power(2), steps), True)
            self.assertIs(is_derivation(EVEN, C.power(-2), steps), False)
        padded = two + (("product", ()),) * 2997 + (("bracket", 0, 1),)
        self.assertIs(is_derivation(EVEN, C.power(2), padded), True)
        self.assertIs(is_derivation(EVEN, C.power(2), (("product", ()),) + padded), False)

    def test_nothing_else(self):
        for value in VALUES:
            self.assertIs(is_derivation(EVEN, Stair.one((3,)), value), value == (), repr(value))
            self.assertIs(is_derivation(EVEN, A.power(2), value), False)
            self.assertIs(is_derivation(EVEN, A.power(2), (value,)), value == ("maker", 0))
            self.assertIs(is_derivation(EVEN, A.power(2), (("maker", 0), value)), value == ("maker", 0))
        for step in WRONG_STEPS:
            self.assertIs(is_derivation(EVEN, A.power(2), (("maker", 0), step, ("maker", 0))), False)
        self.assertIs(is_derivation(EVEN, A.power(2), [("maker", 0)]), False)
        self.assertIs(is_derivation(EVEN, A.power(2), (("maker", 0),)), True)
        self.assertIs(is_derivation(EVEN, A.power(2), (("maker", 10 ** 5000),)), False)

    def test_the_makers_of_the_very_lot_count(self):
        self.assertTrue(is_derivation(ALL3, B, (("maker", 1),)))
        self.assertFalse(is_derivation(Lot((3,), (B, A)), B, (("maker", 1),)))

    def test_0_18_derivations_from_images(self):
        # The brackets of A and B are powers of C: images of A, B and C with C elsewhere make no map.
        clash = (("maker", 0), ("maker", 1), ("bracket", 0, 1), ("maker", 2), ("product", ((2, 1), (3, -1))))
        self.assertFalse(worth((3,), (A, B, C), clash))
        self.assertTrue(worth((3,), (B, A, C), clash))
        self.assertFalse(worth((3,), (B, A, ~C), clash))
        self.assertFalse(worth((2,), tuple(Stair.read(text) for text in ("2", "3", "0")), clash))


if __name__ == "__main__":
    unittest.main()
