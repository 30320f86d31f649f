"""[9.1] to [9.5], [0.15] to [0.17], [0.21] and the functions of two lots at once."""

import random
import unittest

from stairlots.base.shapes import places
from stairlots.base.wholes import is_integer
from stairlots.errors import InvalidLot, InvalidOperation, InvalidStair, TooMany
from stairlots.lots.lots import Lot
from stairlots.shadow.shadows import Shadow
from stairlots.stair.stairs import Stair
from stairlots.way import sides
from stairlots.way.likeness import are_alike
from stairlots.way.sides import (are_sides, common, is_product, is_product_paper, is_sides_paper, least_sides, product_paper,
                                 sides_paper, sides_size, steps_of_sides)
from tests.helper import (A, ALL3, B, C, EVEN, LONGEST, SHAPES, VALUES, long_single, made_up_lot, made_up_member,
                          made_up_stair, rest_of, sample_lots, shadow_stairs, wrong_lots, wrong_members)

LARGEST = 10 ** 4000 - 1
H, K, WISH = Lot((3,), (A,)), Lot((3,), (B,)), Stair.read("3 14/5")


def samples(seed, most=4):
    """Two lots of one shape, and a stair of it."""
    source = random.Random(seed)
    for lot in sample_lots(seed, most, 1):
        other = made_up_lot(source, lot.shape, most, source.randint(0, 3), source.choice((0.4, 1)))
        yield source, lot, made_up_stair(source, lot.shape, most), other
    for lot in sample_lots(seed + 1, LONGEST, 1, ((2,), (3,), (4,), (2, 3), (6, 2), (2, 2, 2))):
        other = made_up_lot(source, lot.shape, LONGEST, source.randint(0, 3))
        yield source, lot, made_up_stair(source, lot.shape, LONGEST), other


def small_pairs(seed, size=120, moduli=(2, 3, 4), shapes=((2,), (3,), (2, 3), (2, 2, 2)) * 4):
    """Two lots and a modulus with few members of both shadows, and these."""
    source = random.Random(seed)
    for shape in shapes:
        for modulus in moduli:
            one = made_up_lot(source, shape, 4, source.randint(0, 2), 0.6)
            other = made_up_lot(source, shape, 4, source.randint(0, 2), 0.6)
            if Shadow(one, modulus).size * Shadow(other, modulus).size <= size * size / 4:
                yield source, one, other, modulus, shadow_stairs(one, modulus), shadow_stairs(other, modulus)


class ExampleTest(unittest.TestCase):
    def test_constant(self):
        self.assertEqual(sides.MAX_DIGITS, 4000)

    def test_document(self):
        wish = Stair.read("3 15/5")
        self.assertEqual([are_sides(H, B, K, wish), are_sides(H, B, K, WISH), str(least_sides(H, WISH, K)),
                          steps_of_sides(H, WISH, K)], [True, False, "0 -1/0", (1, 1, 0)])
        self.assertEqual([is_sides_paper(H, B, K, wish, ("led", A.power(3), B.power(-4))),
                          is_sides_paper(H, B, K, WISH, ("barred", 2))], [True, True])
        one, other = Lot((3,), (A.power(4), C)), Lot((3,), (A.power(6), C.power(2)))
        self.assertEqual([common(one, other).leads, len(common(Lot((3,), (A.power(2) * C,)), Lot((3,), (A.power(2),))))],
                         [{(0, 0, 1): 12, (0, 0, 2): 2}, 0])
        self.assertEqual([is_product(H, K), is_product(H, Lot((3,), (B, C))), is_product_paper(H, K, ("apart", C, 2)),
                          is_product_paper(H, K, ("lot",))], [False, True, True, False])
        self.assertEqual((steps_of_sides(H, Stair.one((3,)), K), tuple((H | K).leads.values())), ((1, 1, 0), (1, 1, 1)))


class SidesTest(unittest.TestCase):
    def test_9_1_what_pairs_lead(self):
        for source, one, stair, other in samples(1):
            h, k = made_up_member(source, one, 2), made_up_member(source, other, 2)
            wish = h * stair * ~k
            self.assertIs(are_sides(one, stair, other, wish), True)
            self.assertIs(are_sides(one, wish, other, stair), True)
            self.assertIs(are_sides(one, stair, other, stair), True)
            paper = sides_paper(one, stair, other, wish)
            self.assertEqual((paper[0], len(paper)), ("led", 3))
            self.assertEqual(paper[1] * stair, wish * paper[2])
            self.assertTrue(paper[1] in one and paper[2] in other)
            self.assertIs(is_sides_paper(one, stair, other, wish, paper), True)
            self.assertIs(is_sides_paper(one, stair, other, wish, ("led", h, k)), True)
            self.assertEqual(least_sides(one, stair, other), least_sides(one, wish, other))
            self.assertEqual(steps_of_sides(one, stair, other), steps_of_sides(one, wish, other))

    def test_9_2_just_one_of_both(self):
        found = {"led": 0, "barred": 0}
        for source, one, stair, other in samples(2):
            for kind in range(3):
                wish = made_up_member(source, one, 2) * stair * made_up_member(source, other, 2)
                if kind:
                    wish = wish * source.choice(Lot.every(one.shape).chain).power(source.choice((1, 2, 6)))
                if kind == 2:
                    wish = made_up_stair(source, one.shape, 3)
                paper = sides_paper(one, stair, other, wish)
                found[paper[0]] += 1
                self.assertIs(is_sides_paper(one, stair, other, wish, paper), True)
                self.assertIs(are_sides(one, stair, other, wish), paper[0] == "led")
                self.assertIs(least_sides(one, stair, other) == least_sides(one, wish, other), paper[0] == "led")
                self.assertEqual(paper, sides_paper(one, stair, other, wish))
                if paper[0] == "barred":
                    self.assertIs(is_sides_paper(one, stair, other, wish, ("barred", 3 * paper[1])), True)
        self.assertGreater(min(found.values()), 80)

    def test_9_2_moduli_by_all_pairs(self):
        barred = 0
        for source, one, other, modulus, ones, others in small_pairs(3):
            stair = made_up_stair(source, one.shape, 3)
            reached = {rest_of(h * stair * ~k, modulus) for h in ones for k in others}
            self.assertEqual(sides_size(Shadow(one, modulus), stair, Shadow(other, modulus)), len(reached))
            for _ in range(5):
                wish = made_up_stair(source, one.shape, 3)
                wanted = rest_of(wish, modulus) not in reached
                barred += wanted
                self.assertIs(is_sides_paper(one, stair, other, wish, ("barred", modulus)), wanted)
        self.assertGreater(barred, 60)

    def test_sizes_and_pairs_that_keep(self):
        for source, one, other, modulus, ones, others in small_pairs(4):
            stair = made_up_stair(source, one.shape, 3)
            keeping = [(h, k) for h in ones for k in others if rest_of(h * stair, modulus) == rest_of(stair * k, modulus)]
            self.assertEqual(sides_size(Shadow(one, modulus), stair, Shadow(other, modulus)) * len(keeping),
                             len(ones) * len(others))

    def test_9_3_least_stairs(self):
        for source, one, stair, other in samples(5):
            least = least_sides(one, stair, other)
            self.assertEqual(len(steps_of_sides(one, stair, other)), len(stair))
            for number, step in zip(least.numbers, steps_of_sides(one, stair, other)):
                self.assertTrue(0 <= number < step or step == 0)
            self.assertIs(are_sides(one, stair, other, least), True)
            self.assertEqual(least_sides(one, least, other), least)

    def test_9_3_steps_by_products(self):
        # Of the products of members that are 0 ahead of a place, the entries there are multiples of the step of one.
        source = random.Random(6)
        for one, other in ((ALL3, H), (H, K), (EVEN, K), (Lot((3,), (A.power(4) * C,)), Lot((3,), (A.power(6), B)))):
            steps = steps_of_sides(one, Stair.one((3,)), other)
            for _ in range(300):
                product = made_up_member(source, one, 3) * made_up_member(source, other, 3)
                if product:
                    at = places((3,)).index(product.lead)
                    self.assertTrue(steps[at] and product.numbers[at] % steps[at] == 0)

    def test_one_lot_beside_no_makers(self):
        # With the lot of one alone on one side, steps and least stairs are those of the members of the other one.
        for source, one, stair, other in samples(7):
            none = Lot(one.shape, ())
            leads = tuple(one.leads.get(place, 0) for place in places(one.shape))
            self.assertEqual(steps_of_sides(one, Stair.one(one.shape), none), leads)
            self.assertEqual(steps_of_sides(none, Stair.one(one.shape), one), leads)
            self.assertIs(are_sides(one, Stair.one(one.shape), none, stair), stair in one)
            self.assertIs(are_sides(none, stair, none, stair), True)
            self.assertEqual(sides_paper(none, stair, none, stair), ("led", Stair.one(one.shape), Stair.one(one.shape)))

    def test_both_sides_alike(self):
        # What one member does from both sides is among what two members do; and from one side alone too.
        for source, one, stair, other in samples(8):
            mover = made_up_member(source, one, 2)
            self.assertIs(are_sides(one, stair, one, mover * stair * ~mover), True)
            self.assertIs(are_sides(Lot.every(one.shape), stair, other, made_up_stair(source, one.shape, 4)), True)


class PaperTest(unittest.TestCase):
    def test_every_right_paper(self):
        lot = Lot((3,), (A, C))
        for many in range(-3, 4):
            h, k = A.power(2) * C.power(many), C.power(many + 4)
            self.assertIs(is_sides_paper(lot, B, lot, A.power(2) * B * C.power(-4), ("led", h, k)), True)
            self.assertIs(is_sides_paper(lot, B, lot, A.power(2) * B * C.power(-4), ("led", h, k * C)), False)
        for modulus in (2, 6, 10 ** 3999, LARGEST, 3, 7):
            self.assertIs(is_sides_paper(H, B, K, WISH, ("barred", modulus)), True)
        two = Lot((3,), (A.power(2), C.power(2)))
        for modulus, wanted in ((2, True), (3, False), (LARGEST, False), (10 ** 3999, True), (10 ** 4000, False)):
            self.assertIs(is_sides_paper(two, B, two, B * C, ("barred", modulus)), wanted)

    def test_nothing_else(self):
        h, k, wish = A.power(3), B.power(-4), Stair.read("3 15/5")
        for value in VALUES + (("led", h), ("led", k, h), ("led", h, k, h), ["led", h, k], ("Led", h, k), ("led", h, ~k),
                               ("led", h, None), ("led", None, k), (h, k, "led"), ("led", (h, k)), ("barred",),
                               ("barred", 2, 2), ("barred", h, k), ("barred", True), ("led", h * B, k * B)):
            self.assertIs(is_sides_paper(H, B, K, wish, value), False, repr(value))
            self.assertIs(is_sides_paper(H, B, K, WISH, value), False)
            self.assertIs(is_sides_paper(H, B, K, wish, ("led", h, value)), False)
            self.assertIs(is_sides_paper(H, B, K, wish, ("led", value, k)), False)
            self.assertIs(is_sides_paper(H, B, K, wish, ("barred", value)), False)
            self.assertIs(is_sides_paper(H, B, K, WISH, ("barred", value)), is_integer(value) and value >= 2
                          or value in (10 ** 60, 10 ** 99))
        for value in (1, 0, -2, True, 10 ** 4000, "2", None, (2,)):
            self.assertIs(is_sides_paper(H, B, K, WISH, ("barred", value)), False)


class CommonTest(unittest.TestCase):
    def test_as_the_operator(self):
        for source, one, stair, other in samples(9):
            part = common(one, other)
            self.assertEqual(part, one & other)
            self.assertEqual((part.chain, part.makers), ((one & other).chain, part.chain))
            for _ in range(2):
                member = made_up_member(source, one, 2)
                self.assertIs(member in part, member in other)

    def test_indices(self):
        for shape in SHAPES:
            every = Lot.every(shape)
            one = Lot(shape, tuple(stair.power(2) for stair in every.chain[:5])) | Lot(shape, every.chain[5:11])
            one = one | Lot(shape, every.chain[11:])
            other = Lot(shape, every.chain[:4]) | Lot(shape, tuple(stair.power(3) for stair in every.chain[4:10]))
            other = other | Lot(shape, every.chain[10:])
            indices = [lot.index_in(every) for lot in (one, other, common(one, other))]
            self.assertGreaterEqual(indices[0] * indices[1], indices[2])
            self.assertEqual((indices[2] % indices[0], indices[2] % indices[1]), (0, 0))

    def test_results_have_their_chains_as_makers(self):
        self.assertEqual(common(ALL3, ALL3).makers, (A, B, C))


class ProductTest(unittest.TestCase):
    def test_9_4_papers(self):
        found = {"lot": 0, "apart": 0}
        for source, one, _, other in samples(10):
            for second in (other, common(one, Lot(one.shape, other.chain[:6])), Lot.every(one.shape),
                           Lot(one.shape, Lot.every(one.shape).chain[-2:]), Lot(one.shape, other.chain[:1])):
                paper = product_paper(one, second)
                found[paper[0]] += 1
                self.assertIs(is_product(one, second), paper[0] == "lot")
                self.assertIs(is_product(second, one), paper[0] == "lot")
                self.assertIs(is_product_paper(one, second, paper), True)
                self.assertIs(is_product_paper(one, second, ("lot",)), paper[0] == "lot")
                joined = one | second
                if paper[0] == "lot":
                    member = joined.member(tuple(source.randint(-3, 3) for _ in joined.chain))
                    self.assertIs(are_sides(one, Stair.one(one.shape), second, member), True)
                else:
                    self.assertIs(are_sides(one, Stair.one(one.shape), second, paper[1]), False)
                    self.assertIn(paper[1], joined.chain)
                    self.told_stair(one, second, paper[1])
        self.assertGreater(min(found.values()), 30)

    def told_stair(self, one, other, stair):
        """[9.4]: the first chain member of the joined lot, in order, at whose place the step is another one."""
        steps = dict(zip(places(one.shape), steps_of_sides(one, Stair.one(one.shape), other)))
        apart = [member for member in (one | other).chain if member.entries[member.lead] != steps[member.lead]]
        self.assertEqual(apart[0], stair)

    def test_9_4_moduli_by_all_products(self):
        apart = 0
        for source, one, other, modulus, ones, others in small_pairs(11, shapes=((3,), (2, 3), (4,)) * 15):
            reached = {rest_of(h * k, modulus) for h in ones for k in others}
            joined = one | other
            for _ in range(4):
                stair = made_up_member(source, joined, 3)
                wanted = rest_of(stair, modulus) not in reached
                apart += wanted
                self.assertIs(is_product_paper(one, other, ("apart", stair, modulus)), wanted)
            if is_product(one, other):
                self.assertEqual(len(reached), Shadow(joined, modulus).size)
        self.assertGreater(apart, 3)

    def test_9_4_normal_lots_have_products(self):
        self.assertIs(is_product(ALL3, EVEN), True)
        self.assertIs(is_product(H, Lot((3,), (C,))), True)
        self.assertIs(is_product(Lot((3,), (A, C)), Lot((3,), (B, C))), True)
        self.assertEqual(product_paper(H, K)[:2], ("apart", C))

    def test_nothing_else(self):
        for value in VALUES + (("lot", 1), ("lot",) * 3, ["lot"], "lot", ("apart", C), ("apart", C, 1), ("apart", C, 2, 2),
                               ("apart", 2, C), ("apart", C.power(2), 2), ("apart", C, True), ("apart", A * B, 2),
                               ["apart", C, 2], ("Apart", C, 2), ("apart", C, 10 ** 4000), ("apart", (C,), 2)):
            self.assertIs(is_product_paper(H, K, value), False, repr(value))
            self.assertIs(is_product_paper(H, K, ("apart", value, 2)), False)
            self.assertIs(is_product_paper(H, Lot((3,), (B, C)), value), False)
            self.assertIs(is_product_paper(H, K, ("apart", C, value)), isinstance(value, int) and value >= 2)
        for stair in (C, C.power(3), B * A, B * A * A):
            self.assertIs(is_product_paper(H, K, ("apart", stair, 2)), rest_of(stair, 2) not in
                          {rest_of(A.power(a) * B.power(b), 2) for a in range(2) for b in range(2)})
        # What is apart, but no member of the joined lot, is no paper.
        self.assertIs(is_product_paper(Lot((3,), (A.power(2),)), K, ("apart", C.power(2), 4)), True)
        self.assertIs(is_product_paper(Lot((3,), (A.power(2),)), K, ("apart", C, 2)), False)
        for modulus, wanted in ((2, True), (6, True), (10 ** 3999, True), (10 ** 4000, False)):
            self.assertIs(is_product_paper(H, K, ("apart", C, modulus)), wanted)


class SizeTest(unittest.TestCase):
    def test_large_moduli(self):
        for modulus in (LARGEST, 10 ** 3999):
            self.assertEqual(sides_size(Shadow(H, modulus), WISH, Shadow(K, modulus)), modulus ** 2)
            for shape in ((3,), (6, 2)):
                every, none = Shadow(Lot.every(shape), modulus), Shadow(Lot(shape, ()), modulus)
                stair = made_up_stair(random.Random(12), shape, LONGEST)
                self.assertEqual(sides_size(every, stair, none), modulus ** len(stair))
                self.assertEqual(sides_size(none, stair, none), 1)
                self.assertEqual(sides_size(every, stair, every), modulus ** len(stair))

    def test_wrong_values(self):
        two = Shadow(ALL3, 2)
        for value in VALUES:
            if not isinstance(value, Shadow):
                self.assertRaises(InvalidOperation, sides_size, value, None, None)
                self.assertRaises(InvalidOperation, sides_size, two, A, value)
        for value in wrong_members((3,)):
            self.assertRaises(InvalidStair, sides_size, two, value, None)
        self.assertRaises(InvalidOperation, sides_size, two, A, Shadow(ALL3, 4))
        self.assertRaises(InvalidOperation, sides_size, two, A, Shadow(Lot.every((4,)), 2))
        self.assertEqual(sides_size(two, A, Shadow(EVEN, 2)), 8)


class LongTest(unittest.TestCase):
    place = (0, 0, 1)

    def test_moduli_of_many_digits(self):
        one = Lot((2,), (long_single((2,), self.place, 8192),))
        wish = long_single((2,), self.place, 8191)
        for first, second in ((one, Lot((2,), ())), (Lot((2,), ()), one), (one, one)):
            paper = sides_paper(first, Stair.one((2,)), second, wish)
            self.assertEqual((paper[0], paper[1] % 2 ** 8192), ("barred", 0))
            self.assertIs(is_sides_paper(first, Stair.one((2,)), second, wish, paper), True)

    def test_too_many(self):
        one, other = Lot((2,), (long_single((2,), self.place, 9000),)), Lot((2,), (long_single((2,), self.place, 9001),))
        wish = long_single((2,), self.place, 8999)
        with self.assertRaises(TooMany) as caught:
            sides_paper(one, Stair.one((2,)), other, wish)
        self.assertEqual(caught.exception.most, 4000)
        self.assertIs(are_sides(one, Stair.one((2,)), other, wish), False)
        self.assertIs(is_sides_paper(one, Stair.one((2,)), other, wish, ("barred", 2 ** 9000)), True)
        self.assertIs(is_sides_paper(one, Stair.one((2,)), other, wish, ("barred", 2 ** 8999)), False)

    def test_too_many_for_products(self):
        # The bracket is 2 ** 9000; no product of powers of both is led to it without the step 2 ** 9001.
        huge = long_single((3,), (0, 0, 1), 9000)
        one, other = Lot((3,), (huge, C.power(2).power(2 ** 99))), Lot((3,), (B, long_single((3,), (0, 0, 2), 9001)))
        self.assertIs(is_product(one, other), True)
        one = Lot((3,), (huge,))
        self.assertEqual(product_paper(one, Lot((3,), (B, huge.bracket(B))))[0], "lot")
        with self.assertRaises(TooMany) as caught:
            product_paper(one, other)
        self.assertEqual(caught.exception.most, 4000)
        self.assertIs(is_product(one, other), False)
        stair = huge.bracket(B)
        self.assertIs(is_product_paper(one, other, ("apart", stair, 2 ** 9001)), True)
        self.assertIs(is_product_paper(one, other, ("apart", stair, 2 ** 9000)), False)

    def test_sixty_digits(self):
        one = Lot((3,), (A.power(LONGEST), B.power(LONGEST - 1)))
        self.assertEqual(steps_of_sides(one, Stair.one((3,)), H), (1, LONGEST - 1, LONGEST * (LONGEST - 1)))


class FalseStatementTest(unittest.TestCase):
    def test_9_5_leads_of_common_lots(self):
        self.assertEqual(len(common(Lot((3,), (A.power(2) * C,)), Lot((3,), (A.power(2),)))), 0)

    def test_9_5_going_there_and_back(self):
        self.assertIs(are_sides(H, Stair.one((3,)), K, A), True)
        self.assertIs(are_alike(H | K, (Stair.one((3,)),), (A,)), False)

    def test_9_5_products_without_normal_lots(self):
        # Neither leads the other one into itself, and yet each stair is a product.
        none = Stair.one((3,))
        one = Lot((3, 3), (A.beside(none), none.beside(B), none.beside(C)))
        other = Lot((3, 3), (B.beside(none), C.beside(none), none.beside(A)))
        self.assertNotIn(A.led(B).beside(none), one)
        self.assertNotIn(none.beside(A.led(B)), other)
        self.assertIs(is_product(one, other), True)
        self.assertEqual(one | other, Lot.every((3, 3)))

    def test_9_5_each_prime(self):
        one = Lot((2,), (Stair.read("4"),))
        for prime in (2, 3, 5, 7):
            self.assertIs(is_sides_paper(one, Stair.one((2,)), one, Stair.read("2"), ("barred", prime)), False)
        self.assertIs(are_sides(one, Stair.one((2,)), one, Stair.read("2")), False)


class WrongTest(unittest.TestCase):
    def test_four(self):
        for call in (are_sides, sides_paper, lambda a, b, c, d: is_sides_paper(a, b, c, d, None)):
            self.three(lambda one, stair, other: call(one, stair, other, None))
            for value in wrong_members((3,)):
                self.assertRaises(InvalidStair, call, EVEN, A, ALL3, value)

    def test_three(self):
        for call in (steps_of_sides, least_sides):
            self.three(call)

    def three(self, call):
        """The errors of a lot, a stair and another lot."""
        for value in VALUES:
            if not isinstance(value, Lot):
                self.assertRaises(InvalidLot, call, value, None, None)
        for value in wrong_members((3,)):
            self.assertRaises(InvalidStair, call, EVEN, value, None)
        for value in wrong_lots((3,)):
            self.assertRaises(InvalidLot, call, EVEN, A, value)
        self.assertRaises(InvalidLot, call, EVEN, A, Lot((2, 3), ()))
        self.assertRaises(InvalidStair, call, Lot((2, 3), ()), A, EVEN)

    def test_two(self):
        for call in (common, is_product, product_paper, lambda one, other: is_product_paper(one, other, None)):
            for value in VALUES:
                if not isinstance(value, Lot):
                    self.assertRaises(InvalidLot, call, value, None)
            for value in wrong_lots((3,)):
                self.assertRaises(InvalidLot, call, EVEN, value)


if __name__ == "__main__":
    unittest.main()
