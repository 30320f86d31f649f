"""[12.4] and the functions of goings."""

import random
import unittest

from stairlots.errors import InvalidLot, InvalidMap, TooMany
from stairlots.lots.lots import Lot
from stairlots.maps.goings import going_paper, is_going, is_going_paper
from stairlots.maps.maps import LotMap
from stairlots.stair.stairs import Stair
from stairlots.way.likeness import alike_paper, are_alike, commuting, is_alike_paper
from tests.helper import (A, ALL3, B, C, EVEN, LONGEST, SHAPES, VALUES, long_single, made_up_lot, made_up_member,
                          made_up_stair, rest_of, sample_lots, small_cases, wrong_lots)

LARGEST = 10 ** 4000 - 1
EVERY = Lot.every((3,))
NEAR = LotMap(EVERY, (A, B * C, C))


def led_map(lot, stair):
    """The map that leads each member as the stair leads it."""
    return LotMap(lot, tuple(one.led(stair) for one in lot.makers))


def maps_by(seed, most=3, shapes=SHAPES):
    """Maps, and lots by which they may be goings."""
    source = random.Random(seed)
    for lot in sample_lots(seed, most, 1, shapes):
        by = made_up_lot(source, lot.shape, 3, source.randint(0, 3), 0.5)
        mover = made_up_member(source, by, 2)
        yield source, led_map(lot, mover), by
        yield source, led_map(lot, mover * made_up_stair(source, lot.shape, 2, 0.3)), by
        yield source, led_map(lot, mover * Lot.every(lot.shape).chain[0]), by | Lot(lot.shape, (mover,))
        yield source, LotMap(lot, tuple(Stair.one(lot.shape) for _ in lot.makers)), by


class ExampleTest(unittest.TestCase):
    def test_document(self):
        turn = LotMap(EVERY, (B, A, ~C))
        few = Lot((3,), (A.power(2),))
        self.assertEqual([is_going_paper(NEAR, EVERY, ("led", A)), is_going(NEAR, few),
                          [is_going_paper(NEAR, few, ("barred", n)) for n in (2, 3)], is_going(turn, EVERY)],
                         [True, False, [True, False], False])


class GoingTest(unittest.TestCase):
    def test_what_members_make_is_a_going(self):
        for source, f, by in maps_by(1):
            mover = made_up_member(source, by, 3)
            going = led_map(f.lot, mover)
            self.assertIs(is_going(going, by), True)
            kind, stair = going_paper(going, by)
            self.assertEqual(kind, "led")
            self.assertIn(stair, by)
            for one in f.lot.chain + (made_up_member(source, f.lot),):
                self.assertEqual(going(one), one.led(stair))

    def test_just_one_of_both(self):
        found = {"led": 0, "barred": 0}
        for source, f, by in maps_by(2):
            paper = going_paper(f, by)
            found[paper[0]] += 1
            self.assertEqual(paper, going_paper(f, by))
            self.assertIs(is_going(f, by), paper[0] == "led")
            self.assertIs(is_going_paper(f, by, paper), True)
            if paper[0] == "led":
                self.assertIn(paper[1], by)
                for maker, image in zip(f.lot.makers, f.images):
                    self.assertEqual(image, maker.led(paper[1]))
            else:
                self.assertIs(is_going_paper(f, by, ("barred", 3 * paper[1])), True)
        self.assertGreater(min(found.values()), 40)

    def test_as_tuples_are_alike(self):
        # Of chains with at most three members the functions of stage 8 judge as well.
        looked = 0
        for source, f, by in maps_by(3):
            stairs = f.lot.chain
            if 1 <= len(stairs) <= 3:
                looked += 1
                others = tuple(f(one) for one in stairs)
                self.assertIs(is_going(f, by), are_alike(by, stairs, others))
                self.assertEqual(going_paper(f, by), alike_paper(by, stairs, others))
                for number in (2, 3, 4, 8, 9, 30):
                    wanted = is_alike_paper(by, stairs, others, ("barred", number))
                    self.assertIs(is_going_paper(f, by, ("barred", number)), wanted)
        self.assertGreater(looked, 60)

    def test_many_chain_members(self):
        # One by one, or three by three, the chain members are led by some member; all at once they are not.
        every = Lot.every((3, 3))
        mover = Stair.read("1 0/0; 0 0/0")
        other = Stair.read("0 0/0; 0 0/1")
        by = Lot((3, 3), (mover, other))
        self.assertIs(is_going(led_map(every, mover * other), by), True)
        self.assertIs(is_going(led_map(every, mover * other), Lot((3, 3), (mover,))), False)
        for shape in ((6, 2), (5, 3), (4, 4)):
            every = Lot.every(shape)
            stair = made_up_stair(random.Random(4), shape, 9)
            self.assertIs(is_going(led_map(every, stair), every), True)
            self.assertIs(is_going(led_map(every, stair), Lot(shape, (stair.power(-1),))), True)
            self.assertIs(is_going(led_map(every, stair), Lot(shape, (stair.power(2),))), False)

    def test_barred_by_all_members(self):
        source = random.Random(5)
        barred = 0
        for by, modulus, members in small_cases(6, moduli=(2, 3, 4, 6)):
            lot = made_up_lot(source, by.shape, 3, 2, 0.7)
            for stair in (made_up_stair(source, by.shape, 2), source.choice(members), Lot.every(by.shape).chain[0]):
                f = led_map(lot, stair)
                pairs = [(one, f(one)) for one in lot.chain]
                wanted = not any(all(rest_of(u * one, modulus) == rest_of(other * u, modulus) for one, other in pairs)
                                 for u in members)
                barred += wanted
                self.assertIs(is_going_paper(f, by, ("barred", modulus)), wanted)
        self.assertGreater(barred, 15)

    def test_lots_without_makers(self):
        for shape in SHAPES:
            by = made_up_lot(random.Random(7), shape, 4, 2)
            for f in (LotMap(Lot(shape, ()), ()), LotMap(Lot(shape, (Stair.one(shape),)), (Stair.one(shape),))):
                for lot in (by, Lot(shape, ())):
                    self.assertIs(is_going(f, lot), True)
                    self.assertIs(is_going_paper(f, lot, going_paper(f, lot)), True)
                    self.assertIs(is_going_paper(f, lot, ("barred", 2)), False)
                self.assertIs(is_going_paper(f, by, ("led", by.makers[0])), True)
            stair = Lot.every(shape).chain[0]
            self.assertIs(is_going(LotMap(Lot(shape, (stair,)), (stair,)), Lot(shape, ())), True)
            self.assertEqual(going_paper(LotMap(Lot(shape, (stair,)), (~stair,)), Lot(shape, ()))[0], "barred")

    def test_makers_do_not_matter(self):
        f = LotMap(Lot((3,), (A * B, B, C)), ((A * B).led(A), B.led(A), C))
        self.assertEqual(going_paper(f, ALL3), going_paper(led_map(ALL3, A), EVERY))

    def test_long_numbers(self):
        f = LotMap(ALL3, (A * C.power(LONGEST), B * C.power(-LONGEST)))
        self.assertIs(is_going(f, ALL3), True)
        self.assertIs(is_going_paper(f, ALL3, ("led", B.power(-LONGEST) * A.power(-LONGEST))), True)
        self.assertIs(is_going_paper(f, EVEN, going_paper(f, EVEN)), True)
        f = f.behind(f).behind(f)
        self.assertIs(is_going_paper(f, ALL3, going_paper(f, ALL3)), True)


class PaperTest(unittest.TestCase):
    def test_every_right_paper(self):
        for source, f, by in maps_by(8):
            stairs = f.lot.chain
            kind, told = going_paper(f, by)
            if kind == "barred":
                for factor in (2, 7, 10 ** 99):
                    self.assertIs(is_going_paper(f, by, ("barred", factor * told)), True)
                continue
            if 1 <= len(stairs) <= 3:
                inner = commuting(by, stairs)
                for one in inner.chain[:2] + (made_up_member(source, inner),):
                    self.assertIs(is_going_paper(f, by, ("led", told * one)), True)

    def test_nothing_else(self):
        few = Lot((3,), (A.power(2),))
        for value in VALUES + (("led",), ["led", A], ("Led", A), ("led", A, A), (A, "led"), {"led": A}, ("barred",),
                               ("barred", 2, 2), ["barred", 2], ("Barred", 2), (2, "barred")):
            for lot in (EVERY, few):
                self.assertIs(is_going_paper(NEAR, lot, value), False, repr(value))
                if not isinstance(value, Stair):
                    self.assertIs(is_going_paper(NEAR, lot, ("led", value)), False)
            self.assertIs(is_going_paper(NEAR, EVERY, ("barred", value)), False)
        for stair in (A.power(2), B, Stair.one((3,)), ~A, Stair.one((2,)), A.beside(Stair.one((2,)))):
            self.assertIs(is_going_paper(NEAR, EVERY, ("led", stair)), False)
        for stair in (A, A * C, A * C.power(LONGEST)):
            self.assertIs(is_going_paper(NEAR, EVERY, ("led", stair)), True)
            self.assertIs(is_going_paper(NEAR, few, ("led", stair)), False)
        for number in (True, False, None, 0, 1, -2, 3, 5, LARGEST + 1, "2", (2,), 2 * 10 ** 4000):
            self.assertIs(is_going_paper(NEAR, few, ("barred", number)), False, repr(number))
        for number in (2, 4, 6, LARGEST - 1):
            self.assertIs(is_going_paper(NEAR, few, ("barred", number)), True, number)

    def test_too_many(self):
        x = long_single((3,), (0, 0, 1), 8193)
        step = long_single((3,), (0, 0, 2), 8192)
        f = LotMap(Lot((3,), (x,)), (x * step,))
        with self.assertRaises(TooMany) as caught:
            going_paper(f, ALL3)
        self.assertEqual(caught.exception.most, 4000)
        self.assertIs(is_going(f, ALL3), False)
        self.assertIs(is_going_paper(f, ALL3, ("barred", 2 ** 8193)), True)
        self.assertIs(is_going_paper(f, ALL3, ("barred", 2 ** 8192)), False)


class WrongTest(unittest.TestCase):
    calls = (is_going, going_paper, lambda f, by: is_going_paper(f, by, None))

    def test_maps(self):
        away = LotMap(ALL3, (Stair.read("1"), Stair.read("2")))
        beside = LotMap(ALL3, (A.beside(Stair.one((2,))), B.beside(Stair.one((2,)))))
        for call in self.calls:
            for value in VALUES + (away, beside, (NEAR,), [NEAR], (A, B * C, C)):
                if not isinstance(value, LotMap) or value.target != (3,):
                    self.assertRaises(InvalidMap, call, value, None)
                    self.assertRaises(InvalidMap, call, value, ALL3)

    def test_lots(self):
        for call in self.calls:
            for value in wrong_lots((3,)) + [Lot.every((2,)), Lot.every((3, 2)), (ALL3,)]:
                self.assertRaises(InvalidLot, call, NEAR, value)


if __name__ == "__main__":
    unittest.main()
