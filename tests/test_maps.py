"""[12.1] to [12.3], [0.18] and the functions and the class of maps."""

import itertools
import random
import unittest
import unittest.mock

from stairlots.base.shapes import is_shape
from stairlots.errors import InvalidLot, InvalidMap, InvalidStair, Refused, TooMany
from stairlots.lots.derivations import worth
from stairlots.lots.lots import Lot
from stairlots.maps import maps
from stairlots.maps.maps import LotMap, is_map, is_map_paper, map_paper
from stairlots.normal.normals import is_normal
from stairlots.stair.stairs import Stair
from stairlots.way.sides import common
from tests.helper import (A, ALL3, B, C, EVEN, LONGEST, SHAPES, VALUES, made_up_lot, made_up_stair, sample_lots)
from tests.test_derivations import WRONG_STEPS

SMALL_SHAPES = ((2,), (3,), (4,), (2, 3), (3, 3), (2, 2, 2), (2, 2, 3), (3, 2))
CLASH = (("maker", 0), ("maker", 1), ("bracket", 0, 1), ("maker", 2), ("product", ((2, 1), (3, -1))))


def product_of_powers(shape, stairs, exponents):
    """The product of powers, in the order of the stairs; by squares, as exponents can be long."""
    found = Stair.one(shape)
    for stair, number in zip(stairs, exponents):
        base = stair if number >= 0 else ~stair
        for digit in bin(abs(number))[:1:-1]:
            if digit == "1":
                found = found * base
            base = base * base
    return found


def is_told_map(lot, images, stairs):
    """[12.2], word by word: whether the stairs are those to which a map of the images leads the chain members."""
    target = images[0].shape if images else lot.shape
    if len(stairs) != len(lot.chain) or any(stair.shape != target for stair in stairs):
        return False
    for maker, image in zip(lot.makers, images):
        if product_of_powers(target, stairs, lot.exponents(maker)) != image:
            return False
    for i, j in itertools.combinations(range(len(stairs)), 2):
        wanted = product_of_powers(target, stairs, lot.exponents(lot.chain[i].bracket(lot.chain[j])))
        if stairs[i].bracket(stairs[j]) != wanted:
            return False
    return True


def maps_of(seed, most=4, shapes=SHAPES):
    """Lots with images that have maps: led by a stair, a block of them, images of sums, one alone, shapes beside."""
    source = random.Random(seed)
    for lot in sample_lots(seed, most, 1, shapes):
        shape = lot.shape
        mover = made_up_stair(source, shape, 2, 0.6)
        yield source, lot, tuple(one.led(mover) for one in lot.makers)
        yield source, lot, tuple(one.block(len(shape) - 1) for one in lot.makers)
        yield source, lot, tuple(Stair.one((2, 2)) for _ in lot.makers)
        if is_shape(shape + (2,)):
            yield source, lot, tuple(one.beside(Stair.single((2,), (0, 0, 1), one.numbers[0])) for one in lot.makers)
        yield source, lot, tuple(Stair.single((3,), (0, 0, 2), 3 * one.numbers[0]) for one in lot.makers)


def images_of(seed, most=9):
    """Small lots with any images."""
    source = random.Random(seed)
    for shape, target in itertools.product(SMALL_SHAPES, repeat=2):
        for part in (0.2, 0.5, 1):
            lot = made_up_lot(source, shape, most, source.randint(0, 3), part)
            yield source, lot, tuple(made_up_stair(source, target, most, part) for _ in lot.makers)
    for shape in SMALL_SHAPES * 6:
        lot = made_up_lot(source, shape, 3, source.randint(1, 3), 0.6)
        mover = made_up_stair(source, shape, 1, 0.5)
        near = [one.led(mover) for one in lot.makers]
        near[0] = near[0] * Lot.every(shape).chain[-1]
        yield source, lot, tuple(near)


def some_member(source, lot, most=3):
    """A member of a lot."""
    return lot.member(tuple(source.randint(-most, most) for _ in lot.chain))


class ExampleTest(unittest.TestCase):
    def test_document(self):
        every = Lot.every((3,))
        turn, few = LotMap(every, (B, A, ~C)), LotMap(every, (Stair.read("2"), Stair.read("3"), Stair.read("0")))
        self.assertEqual([str(turn(A * B)), turn.behind(turn) == LotMap(every, (A, B, C)), [str(x) for x in few.kernel],
                          few.image == Lot.every((2,)), str(few)],
                         ["1 0/1", True, ["3 0/-2", "0 1/0"], True, "map of lot of 3 in (3,) to (2,)"])
        self.assertEqual([is_map(every, (B, A, C)), is_map_paper(every, (B, A, C), ("clash", CLASH)),
                          is_map_paper(every, (A.power(2), B, C.power(2)), ("map", (A.power(2), B, C.power(2))))],
                         [False, True, True])


class PaperTest(unittest.TestCase):
    def test_12_2_images_with_maps(self):
        for source, lot, images in maps_of(1):
            self.assertIs(is_map(lot, images), True)
            paper = map_paper(lot, images)
            self.assertEqual((paper[0], len(paper)), ("map", 2))
            self.assertTrue(is_told_map(lot, images, paper[1]))
            self.assertIs(is_map_paper(lot, images, paper), True)

    def test_12_2_just_one_of_both(self):
        found = {"map": 0, "clash": 0}
        longest = 0
        for source, lot, images in images_of(2):
            paper = map_paper(lot, images)
            found[paper[0]] += 1
            self.assertIs(is_map_paper(lot, images, paper), True)
            self.assertIs(is_map(lot, images), paper[0] == "map")
            self.assertEqual(paper, map_paper(lot, images))
            if paper[0] == "map":
                self.assertTrue(is_told_map(lot, images, paper[1]))
            else:
                longest = max(longest, len(paper[1]))
                self.assertFalse(worth(lot.shape, lot.makers, paper[1]))
                self.assertTrue(worth(images[0].shape, images, paper[1]))
                self.assertRaises(Refused, LotMap, lot, images)
        self.assertGreater(min(found.values()), 50)
        self.assertLessEqual(longest, 3000)

    def test_12_1_maps_by_members(self):
        # Products of makers that are 1 have images that are 1: words that are members in two ways.
        for source, lot, images in images_of(3):
            if is_map(lot, images):
                f = LotMap(lot, images)
                words = [source.randrange(len(lot.makers)) for _ in range(6)] if lot.makers else []
                stair, image = Stair.one(lot.shape), Stair.one(f.target)
                for at in words:
                    many = source.randint(-2, 2)
                    stair, image = stair * lot.makers[at].power(many), image * images[at].power(many)
                self.assertEqual(f(stair), image)

    def test_lots_without_makers(self):
        for shape in SHAPES:
            lot = Lot(shape, ())
            self.assertEqual(map_paper(lot, ()), ("map", ()))
            self.assertIs(is_map_paper(lot, (), ("map", ())), True)
            self.assertIs(is_map_paper(lot, (), ("clash", ())), False)
            f = LotMap(lot, ())
            self.assertEqual((f.target, f.kernel, f.image, f(Stair.one(shape))), (shape, lot, lot, Stair.one(shape)))
            ones = Lot(shape, (Stair.one(shape),) * 2)
            self.assertIs(is_map(ones, (Stair.one((2,)),) * 2), True)
            self.assertIs(is_map(ones, (Stair.one((2,)), Stair.read("1"))), False)
            self.assertEqual(map_paper(ones, (Stair.one((2,)), Stair.read("1"))), ("clash", (("maker", 1),)))
            self.assertEqual(LotMap(ones, (Stair.one((2,)),) * 2).target, (2,))

    def test_lots_that_are_results(self):
        every = Lot.every((6, 2))
        self.assertIs(is_map(every, every.chain), True)
        self.assertIs(is_map(every, every.chain[:15] + (every.chain[14],)), False)
        paper = map_paper(every, every.chain[:15] + (every.chain[0],))
        self.assertEqual(paper[0], "clash")
        self.assertIs(is_map_paper(every, every.chain[:15] + (every.chain[0],), paper), True)

    def test_sixty_digits(self):
        images = (A.power(LONGEST), B.power(-LONGEST))
        f = LotMap(ALL3, images)
        self.assertEqual(f(C).numbers, (0, 0, -LONGEST ** 2))
        self.assertEqual(f(A.power(LONGEST)).numbers[0], LONGEST ** 2)
        self.assertIs(is_map(ALL3, (A.power(LONGEST), B.power(LONGEST))), True)
        lot = Lot((2,), (Stair.single((2,), (0, 0, 1), LONGEST), Stair.single((2,), (0, 0, 1), LONGEST - 1)))
        self.assertIs(is_map(lot, lot.makers), True)
        self.assertIs(is_map(lot, lot.makers[:1] + (Stair.single((2,), (0, 0, 1), LONGEST - 2),)), False)

    def test_every_right_paper(self):
        every = Lot.every((3,))
        for steps in (CLASH, CLASH[:3] + (("maker", 2), ("product", ((3, -7), (2, 7)))),
                      (("maker", 2), ("maker", 1), ("maker", 0), ("bracket", 1, 2), ("product", ((0, 1), (3, 1)))),
                      (("product", ()),) * 2995 + tuple(
                          (step[0],) + tuple(at + 2995 if step[0] == "bracket" else at for at in step[1:])
                          if step[0] != "product" else ("product", ((2997, 1), (2998, -1))) for step in CLASH)):
            self.assertIs(is_map_paper(every, (B, A, C), ("clash", steps)), True, steps[-3:])
            self.assertIs(is_map_paper(every, (B, A, ~C), ("clash", steps)), False)
        self.assertIs(is_map_paper(every, (B, A, C), ("clash", (("product", ()),) * 2996 + CLASH)), False)

    def test_nothing_else(self):
        every = Lot.every((3,))
        good, bad = (A.power(2), B, C.power(2)), (B, A, C)
        for value in VALUES + (("map",), ["map", good], ("map", list(good)), ("map", good[:2]), ("map", good + (C,)),
                               ("map", bad), ("map", (A, B, C)), ("Map", good), ("map", good, ()), (good, "map"),
                               ("map", tuple(one.beside(A) for one in good)), ("map", None), ("clash", ()), ("clash",),
                               ("clash", CLASH[:3]), ("clash", CLASH[:4]), ("clash", list(CLASH)), ["clash", CLASH],
                               ("clash", CLASH, 1), ("Clash", CLASH), ("clash", (("maker", 3),)), {"map": good}):
            self.assertIs(is_map_paper(every, good, value), False, repr(value))
            self.assertIs(is_map_paper(every, bad, value), False, repr(value))
            self.assertIs(is_map_paper(every, good, ("map", value)), False)
            self.assertIs(is_map_paper(every, bad, ("map", value)), False)
            self.assertIs(is_map_paper(every, bad, ("clash", value)), False)
        self.assertIs(is_map_paper(every, good, ("clash", CLASH)), False)
        for step in WRONG_STEPS:
            if step != ("maker", 2):
                self.assertIs(is_map_paper(every, bad, ("clash", CLASH[:1] + (step,) + CLASH)), False, step)
        for at in range(3):
            stairs = list(good)
            stairs[at] = stairs[at] * C
            self.assertIs(is_map_paper(every, good, ("map", tuple(stairs))), False)

    def test_too_many_steps(self):
        # Images that clash by so many steps alone are out of reach here: the limit is put lower.
        images = (B, A, C)
        steps = map_paper(Lot.every((3,)), images)[1]
        with unittest.mock.patch.object(maps, "MAX_STEPS", len(steps)):
            self.assertEqual(map_paper(Lot.every((3,)), images)[1], steps)
        with unittest.mock.patch.object(maps, "MAX_STEPS", len(steps) - 1):
            with self.assertRaises(TooMany) as caught:
                map_paper(Lot.every((3,)), images)
            self.assertEqual(caught.exception.most, len(steps) - 1)
            self.assertIs(is_map(Lot.every((3,)), images), False)
            self.assertEqual(map_paper(Lot.every((3,)), (B, A, ~C))[0], "map")


class MapTest(unittest.TestCase):
    def test_12_1_products_and_makers(self):
        for source, lot, images in maps_of(4):
            f = LotMap(lot, images)
            for maker, image in zip(lot.makers, images):
                self.assertEqual(f(maker), image)
            x, y = some_member(source, lot), some_member(source, lot)
            self.assertEqual(f(x * y), f(x) * f(y))
            self.assertEqual((f(~x), f(Stair.one(lot.shape))), (~f(x), Stair.one(f.target)))
            self.assertEqual(f(x).shape, images[0].shape if images else lot.shape)

    def test_12_3_kernels_and_images(self):
        for source, lot, images in maps_of(5):
            f = LotMap(lot, images)
            self.assertEqual((f.kernel.makers, f.image.makers), (f.kernel.chain, f.image.chain))
            self.assertTrue(f.kernel.is_within(lot))
            self.assertIs(is_normal(lot, f.kernel), True)
            self.assertEqual(len(lot), len(f.kernel) + len(f.image))
            if images:
                self.assertEqual(f.image, Lot(f.target, images))
            for stair in f.kernel.chain:
                self.assertFalse(f(stair))
            for _ in range(2):
                x, y = some_member(source, lot), some_member(source, lot)
                inner = some_member(source, f.kernel, 2)
                for other in (y, x * inner, x):
                    self.assertIs(f(x) == f(other), ~x * other in f.kernel)
                    self.assertIs(x.bracket(other) in f.kernel, not f(x.bracket(other)))
                self.assertIn(f(x), f.image)
            if len(f.kernel) <= 6:
                self.assertEqual(Lot(lot.shape, f.kernel.chain).chain, f.kernel.chain)

    def test_12_3_forth_and_back(self):
        for source, lot, images in maps_of(6):
            f = LotMap(lot, images)
            inner = Lot(lot.shape, tuple(some_member(source, lot, 2) for _ in range(source.randint(0, 2))))
            there = f.forth(inner)
            self.assertEqual(there, Lot(f.target, tuple(f(one) for one in inner.makers)))
            self.assertEqual(f.back(there), inner | f.kernel)
            other = made_up_lot(source, f.target, 2, 2, 0.5) | Lot(f.target, f.image.chain[:1])
            back = f.back(other)
            self.assertEqual(f.forth(back), common(other, f.image))
            self.assertEqual((back.makers, there.makers), (back.chain, there.chain))
            x = some_member(source, lot, 2)
            self.assertIs(x in back, f(x) in other)
            self.assertEqual((f.forth(lot), f.back(Lot(f.target, ()))), (f.image, f.kernel))
            if len(back) <= 6:
                self.assertEqual(Lot(lot.shape, back.chain).chain, back.chain)

    def test_12_3_indices(self):
        for source, lot, images in maps_of(7, 3, ((2,), (3,), (4,), (2, 3), (2, 2, 2))):
            f = LotMap(lot, images)
            inner = Lot(lot.shape, tuple(one.power(source.randint(1, 3)) for one in lot.chain[:6]))
            index = inner.index_in(lot)
            if index is not None:
                wanted = f.forth(inner).index_in(f.image) * common(inner, f.kernel).index_in(f.kernel)
                self.assertEqual(index, wanted)

    def test_graphs(self):
        drawn = 0
        for source, lot, images in maps_of(8):
            f = LotMap(lot, images)
            if not is_shape(lot.shape + f.target):
                with self.assertRaises(TooMany) as caught:
                    f.graph()
                self.assertEqual(caught.exception.most, 8)
                continue
            drawn += 1
            graph = f.graph()
            self.assertEqual(graph.shape, lot.shape + f.target)
            self.assertEqual(graph.makers, graph.chain)
            self.assertEqual(len(graph), len(lot))
            for _ in range(2):
                x = some_member(source, lot, 2)
                self.assertIn(x.beside(f(x)), graph)
            if f.image:
                self.assertNotIn(x.beside(f(x) * f.image.chain[-1]), graph)
            if images:
                self.assertEqual(graph, Lot(graph.shape, tuple(a.beside(b) for a, b in zip(lot.makers, images))))
        self.assertGreater(drawn, 40)

    def test_behind(self):
        for source, lot, images in maps_of(9):
            first = LotMap(lot, images)
            if not images:
                self.assertEqual(LotMap(Lot(first.target, ()), ()).behind(first).lot, lot)
                continue
            mover = made_up_stair(source, first.target, 2, 0.6)
            outer = Lot(first.target, images)
            second = LotMap(outer, tuple(one.led(mover) for one in outer.makers))
            both = second.behind(first)
            self.assertIs(both.lot, lot)
            self.assertEqual(both.images, tuple(second(one) for one in images))
            x = some_member(source, lot, 2)
            self.assertEqual(both(x), second(first(x)))

    def test_equality(self):
        every = Lot.every((3,))
        turn = LotMap(every, (B, A, ~C))
        self.assertTrue(turn == LotMap(ALL3, (B, A)))
        self.assertTrue(turn == LotMap(Lot((3,), (A * B, B)), (B * A, A)))
        self.assertFalse(turn != LotMap(ALL3, (B, A)))
        self.assertFalse(turn == LotMap(ALL3, (B, ~A)))
        self.assertFalse(turn == LotMap(EVEN, (B.power(2), A)))
        self.assertFalse(LotMap(every, (Stair.one((2,)),) * 3) == LotMap(every, (Stair.one((3,)),) * 3))
        self.assertFalse(LotMap(Lot((2, 3), ()), ()) == LotMap(Lot((3, 2), ()), ()))
        for value in VALUES:
            self.assertFalse(turn == value)
            self.assertTrue(turn != value)
        for source, lot, images in maps_of(10):
            f = LotMap(lot, images)
            again = LotMap(Lot(lot.shape, ()) | lot, tuple(f(one) for one in lot.chain))
            self.assertIs(f == again, f.target == again.target)

    def test_properties(self):
        lot, images = Lot((3,), (B, A, B)), (A, B, A)
        f = LotMap(lot, images)
        self.assertIs(f.lot, lot)
        self.assertEqual((f.images, f.target), (images, (3,)))
        for name in ("lot", "images", "target", "kernel", "image"):
            with self.assertRaises(AttributeError):
                setattr(f, name, None)
        self.assertRaises(TypeError, iter, f)
        self.assertEqual(str(LotMap(Lot.every((2, 4)), Lot.every((2, 4)).chain)), "map of lot of 7 in (2, 4) to (2, 4)")


class WrongTest(unittest.TestCase):
    calls = (is_map, map_paper, lambda lot, images: is_map_paper(lot, images, None), LotMap)

    def test_images(self):
        for call in self.calls:
            for value in VALUES:
                if not isinstance(value, Lot):
                    self.assertRaises(InvalidLot, call, value, None)
                if value != (A, B):
                    self.assertRaises(InvalidMap, call, EVEN, value)
                if not isinstance(value, Stair) or value.shape != (3,):
                    self.assertRaises(InvalidMap, call, EVEN, (A, value))
                    self.assertRaises(InvalidMap, call, EVEN, (value, A))
                if value != ():
                    self.assertRaises(InvalidMap, call, Lot((3,), ()), value)
            for value in ((A,), (A, B, C), [A, B], ((A, B),), (A, Stair.one((4,))), {0: A, 1: B}):
                self.assertRaises(InvalidMap, call, EVEN, value)

    def test_refused(self):
        with self.assertRaises(Refused) as caught:
            LotMap(Lot.every((3,)), (B, A, C))
        self.assertEqual(caught.exception.reason, ("clash",))

    def test_members(self):
        f = LotMap(EVEN, (A, B))
        for value in VALUES + (A, C, A * B):
            if not isinstance(value, Stair) or value not in EVEN:
                self.assertRaises(InvalidStair, f, value)
        self.assertEqual(f(A.power(4) * B), A.power(2) * B)

    def test_parts(self):
        f = LotMap(EVEN, (Stair.read("1"), Stair.read("2")))
        for value in VALUES + (ALL3, Lot((3,), (C,)), Lot((2, 3), ())):
            if not isinstance(value, Lot) or value.shape != (3,) or not value.is_within(EVEN):
                self.assertRaises(InvalidLot, f.forth, value)
            if not isinstance(value, Lot) or value.shape != (2,):
                self.assertRaises(InvalidLot, f.back, value)
        self.assertEqual(f.back(Lot((2,), (Stair.read("2"),))).leads, {(0, 0, 1): 4, (0, 1, 2): 1, (0, 0, 2): 2})

    def test_behind(self):
        f = LotMap(EVEN, (A, B))
        for value in VALUES:
            self.assertRaises(InvalidMap, f.behind, value)
        self.assertRaises(InvalidMap, f.behind, f)
        self.assertRaises(InvalidMap, f.behind, LotMap(EVEN, (Stair.one((2,)),) * 2))
        self.assertEqual(f.behind(LotMap(ALL3, (A.power(2), B)))(A), A)


if __name__ == "__main__":
    unittest.main()
