"""[0.1] to [0.6]: what holds for all that judges values, and for the objects of all classes."""

import unittest

from stairlots.base.ratios import Ratio
from stairlots.base.shapes import is_place, is_shape
from stairlots.base.wholes import is_integer
from stairlots.books.books import Book
from stairlots.books.polynomials import Polynomial
from stairlots.index.lots import is_table
from stairlots.lots.derivations import is_derivation
from stairlots.lots.lots import Lot
from stairlots.lots.sums import is_sum
from stairlots.maps.goings import is_going_paper
from stairlots.maps.maps import LotMap, is_map_paper
from stairlots.normal.rests import Rest
from stairlots.roots.spans import is_span
from stairlots.shadow.bars import is_bar
from stairlots.shadow.shadows import Shadow
from stairlots.shop.workshop import Workshop
from stairlots.stair.stairs import Stair
from stairlots.way.likeness import is_alike_paper
from stairlots.way.numbers import is_way_paper
from stairlots.way.sides import is_product_paper, is_sides_paper
from tests.helper import A, ALL3, B, C, EVEN, VALUES

HUGE = 10 ** 5000
FLAT = Lot((3,), (A, C))
REST = Rest(ALL3, Lot((3,), (C,)))
TURN = LotMap(ALL3, (B, A))
MORE = (HUGE, -HUGE, (HUGE,), (HUGE, HUGE), (HUGE,) * 3, ((HUGE, 0, 0), (0, HUGE, 0), (0, 0, HUGE)), ("barred", HUGE),
        ("barred", -HUGE), ("led", HUGE), ("apart", C, HUGE), ("led", A, B), ("led", HUGE, A), (("maker", HUGE),), ("clash", HUGE),
        (("maker", 0), ("product", ((0, HUGE),))), (("product", ((HUGE, 1),)),), (("bracket", HUGE, 0),), (0, 0, HUGE), ("map", HUGE),
        (True, True), (True, 1, 2), ("barred", 2), ("barred", 3), ("lot",), ("lot", None), (("maker", True),), ("led",), ("barred",),
        {"led": A}, [("led", A)], ((), ()), (((), ()), ((), ())), Workshop((3,)))

# Each of these is asked of every value; the parameters ahead of it are right.
JUDGES = {
    "is_integer": is_integer, "is_shape": is_shape, "is_place": lambda value: is_place((3,), value),
    "is_derivation": lambda value: is_derivation(EVEN, C.power(2), value), "is_bar": lambda value: is_bar(EVEN, A, value),
    "is_sum": lambda value: is_sum(EVEN, value), "is_sum modulo": lambda value: is_sum(EVEN, value, modulus=4),
    "is_way_paper": lambda value: is_way_paper(EVEN, (1, 2, 3), (2, 2, 3), value),
    "is_alike_paper": lambda value: is_alike_paper(EVEN, (B,), (B * C,), value),
    "is_sides_paper": lambda value: is_sides_paper(EVEN, A, FLAT, B, value),
    "is_product_paper": lambda value: is_product_paper(Lot((3,), (A,)), Lot((3,), (B,)), value),
    "rest.is_alike_paper": lambda value: REST.is_alike_paper(A, B, value),
    "is_map_paper": lambda value: is_map_paper(ALL3, (B, A), value),
    "is_going_paper": lambda value: is_going_paper(TURN, ALL3, value), "book.is_like": Book(ALL3).is_like,
    "is_span": lambda value: is_span((3,), value), "is_table": lambda value: is_table(ALL3, value),
}
OBJECTS = (Ratio(3), A, EVEN, Shadow(EVEN, 4), REST, TURN, Polynomial(1, {(1,): Ratio(1)}), Book(EVEN), Workshop((3,)))


class JudgeTest(unittest.TestCase):
    def test_0_5_every_value_is_judged(self):
        for name, judge in JUDGES.items():
            answers = [judge(value) for value in VALUES + MORE]
            self.assertTrue(all(answer is True or answer is False for answer in answers), name)
            self.assertLess(len([answer for answer in answers if answer]), 30, name)

    def test_0_5_true_is_not_1(self):
        for judge, good, bad in (
            (is_shape, (3, 2), (3, True)), (lambda value: is_place((3,), value), (0, 0, 1), (0, 0, True)),
            (lambda value: is_place((3,), value), (0, 1, 2), (False, 1, 2)), (is_integer, 1, True),
            (lambda value: is_sum(ALL3, value), (1, 0), (True, 0)), (lambda value: is_sum(ALL3, value), (1, 0), (1, False)),
            (lambda value: is_derivation(ALL3, A, value), (("maker", 0),), (("maker", False),)),
            (lambda value: is_table(Lot((2,), (Stair.read("3"),)), value), ((1,),), ((True,),)),
        ):
            self.assertEqual((judge(good), judge(bad)), (True, False))


class ObjectTest(unittest.TestCase):
    def test_0_2_equality_accepts_every_value(self):
        for one in OBJECTS:
            for value in VALUES + MORE + OBJECTS:
                same = one == value
                self.assertIs(same is True or same is False, True)
                self.assertIs(one != value, not same)
            self.assertTrue(one == one)

    def test_0_2_in_accepts_every_value(self):
        shop = Workshop((3,))
        shop.put("a", EVEN)
        for one in (EVEN, Shadow(EVEN, 3), shop):
            for value in VALUES + MORE:
                self.assertIn(value in one, (True, False))

    def test_0_2_iterating(self):
        for one in OBJECTS:
            if not isinstance(one, Lot):
                self.assertRaises(TypeError, iter, one)

    def test_0_3_keywords(self):
        for call in (lambda: is_sum(ALL3, (1, 0), 2), lambda: Workshop((3,)).undo(0)):
            self.assertRaises(TypeError, call)


if __name__ == "__main__":
    unittest.main()
