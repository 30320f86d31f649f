"""[13.2] to [13.4] and the class Book."""

import itertools
import random
import unittest

from stairlots.base.ratios import Ratio
from stairlots.books import books
from stairlots.books.books import Book
from stairlots.books.polynomials import Polynomial
from stairlots.errors import InvalidLot, InvalidNumber, InvalidOperation, TooMany
from stairlots.lots.lots import Lot
from stairlots.maps.maps import LotMap, is_map
from stairlots.stair.stairs import Stair
from tests.helper import (A, ALL3, B, C, EVEN, LONGEST, SHAPES, TOO_LONG, VALUES, made_up_stair, sample_lots)

# In the first lot the leads are as far apart as can be, in the second one they are long as well.
LADDER = Lot((6,), (Stair((6,), {(0, at, at + 1): 1 for at in range(5)}), Stair.single((6,), (0, 4, 5), 1)))


def small_lots(seed, most=9):
    """Lots with at most six leads."""
    source = random.Random(seed)
    lots = sample_lots(seed, most, 2) + [LADDER, Lot.every((4,)), Lot.every((3, 3)), Lot.every((4, 2, 2)), Lot.every((3, 3, 2))]
    mover = made_up_stair(source, (6,), 5)
    lots.append(Lot((6,), tuple(one.led(mover).power(source.randint(1, 3)) for one in LADDER.chain)))
    for shape in ((4,), (5,), (6, 2), (4, 4)):
        for _ in range(12):
            makers = tuple(made_up_stair(source, shape, most, 0.3) for _ in range(source.randint(1, 4)))
            lots.append(Lot(shape, makers))
    return [lot for lot in lots if len(lot) <= 6]


def some_exponents(source, lot, most=5):
    """Exponents of a member."""
    return tuple(source.randint(-most, most) for _ in lot)


def values(forms, numbers):
    """The values of polynomials."""
    return tuple(form.value_at(numbers) for form in forms)


def ratios(numbers):
    """Integers as ratios; these may be long."""
    return tuple(Ratio(0) + number for number in numbers)


class ExampleTest(unittest.TestCase):
    def test_document(self):
        book = Book(Lot.every((3,)))
        self.assertEqual([[str(one) for one in book.products()], str(book.powers()[2]), str(book.brackets()[2]),
                          book.raised((1, 1, 0), -1)],
                         [["x0 + x3", "x1 + x4", "-x1*x3 + x2 + x5"], "-1/2*x0*x1*x3^2 + 1/2*x0*x1*x3 + x2*x3",
                          "x0*x4 - x1*x3", (-1, -1, -1)])
        self.assertEqual(([book.is_like(Book(Lot((3,), some)))
                           for some in ((A.power(2), B.power(3)), (A.power(2), B, C))],
                          str(Book(Lot((3,), (A.power(2), B, C))).products()[2])), ([True, False], "-2*x1*x3 + x2 + x5"))
        self.assertEqual(books.MAX_LEADS, 6)


class PolynomialTest(unittest.TestCase):
    def check(self, lot, *cases):
        """[13.2] for exponents of two members and an integer."""
        book = Book(lot)
        products, powers, brackets = book.products(), book.powers(), book.brackets()
        for p, q, number in cases:
            x, y = lot.member(p), lot.member(q)
            for forms, numbers, stair in ((products, p + q, x * y), (powers, p + (number,), x.power(number)),
                                          (brackets, p + q, x.bracket(y))):
                self.assertEqual(values(forms, numbers), ratios(lot.exponents(stair)))

    def test_13_2_values(self):
        for lot in small_lots(1):
            source = random.Random(len(lot))
            self.check(lot, *[(some_exponents(source, lot, most), some_exponents(source, lot, most),
                               source.randint(-most, most)) for most in (1, 4, 10 ** 9)])

    def test_13_2_all_integers(self):
        source = random.Random(2)
        for lot in small_lots(3, 3):
            far = (LONGEST, -LONGEST, LONGEST - 1, 0, 1, -1, 10 ** 59, -2)
            p, q = tuple(source.choice(far) for _ in lot), tuple(source.choice(far) for _ in lot)
            self.check(lot, *[(p, q, number) for number in (LONGEST, -LONGEST, 0, 1, -1)])

    def test_13_2_all_small_exponents(self):
        for lot in (ALL3, EVEN, Lot((3,), (A.power(2) * C, B.power(3), C.power(4))), Lot((3,), (A * B,))):
            exponents = list(itertools.product((-2, 0, 1), repeat=len(lot)))
            self.check(lot, *[(p, q, p[0] * 3 - q[-1]) for p, q in itertools.product(exponents, repeat=2)])

    def test_numbers_of_polynomials_and_variables(self):
        for lot in small_lots(4):
            many = len(lot)
            book = Book(lot)
            for forms, variables in ((book.products(), 2 * many), (book.powers(), many + 1), (book.brackets(), 2 * many)):
                self.assertIsInstance(forms, tuple)
                self.assertEqual(len(forms), many)
                self.assertTrue(all(isinstance(form, Polynomial) and form.variables == variables for form in forms))
            self.assertEqual((book.products(), book.powers()), (book.products(), book.powers()))

    def test_lots_without_makers(self):
        for shape in SHAPES:
            book = Book(Lot(shape, ()))
            self.assertEqual((book.products(), book.powers(), book.brackets()), ((), (), ()))
            self.assertEqual((book.multiplied((), ()), book.raised((), 7), book.exchanged((), ())), ((), (), ()))
            self.assertEqual((len(book), str(book), book.is_like(Book(Lot((2,), ())))), (0, "book of 0 leads", True))

    def test_long_leads(self):
        for lot in (Lot((3,), (A.power(LONGEST) * C, B.power(10 ** 59), C.power(LONGEST - 1))),
                    Lot((4,), (Stair((4,), {(0, 0, 1): LONGEST, (0, 1, 2): 10 ** 58, (0, 2, 3): 1}),
                               Stair.single((4,), (0, 2, 3), 10 ** 57)))):
            self.assertLessEqual(len(lot), 6)
            source = random.Random(5)
            self.check(lot, (some_exponents(source, lot, 10 ** 30), some_exponents(source, lot, 10 ** 30), 10 ** 20))


class ExponentTest(unittest.TestCase):
    def test_as_the_lot_does(self):
        for lot in small_lots(6, LONGEST):
            source = random.Random(len(lot))
            book = Book(lot)
            for most in (3, LONGEST):
                p, q = some_exponents(source, lot, most), some_exponents(source, lot, most)
                number = source.randint(-most, most)
                x, y = lot.member(p), lot.member(q)
                self.assertEqual(book.multiplied(p, q), lot.exponents(x * y))
                self.assertEqual(book.raised(p, number), lot.exponents(x.power(number)))
                self.assertEqual(book.exchanged(p, q), lot.exponents(x * y * ~x * ~y))

    def test_13_3_what_holds_for_all(self):
        for lot in small_lots(7):
            source = random.Random(len(lot))
            book = Book(lot)
            p, q, r = [some_exponents(source, lot, 10 ** 6) for _ in range(3)]
            i, j = source.randint(-10 ** 6, 10 ** 6), source.randint(-10 ** 6, 10 ** 6)
            self.assertEqual(book.multiplied(book.multiplied(p, q), r), book.multiplied(p, book.multiplied(q, r)))
            self.assertEqual(book.multiplied(book.raised(p, i), book.raised(p, j)), book.raised(p, i + j))
            self.assertEqual(book.raised(p, 0), (0,) * len(lot))
            self.assertEqual(book.multiplied(book.exchanged(p, q), book.multiplied(q, p)), book.multiplied(p, q))


class LikeTest(unittest.TestCase):
    def test_13_4_like_books_and_maps(self):
        found = {True: 0, False: 0}
        lots = small_lots(8, 2)
        source = random.Random(9)
        for one, other in [(source.choice(lots), source.choice(lots)) for _ in range(900)]:
            if len(one) != len(other):
                self.assertIs(Book(one).is_like(Book(other)), False)
                continue
            first = Lot(one.shape, one.chain)
            images = other.chain
            wanted = not images or is_map(first, images)
            if images and wanted:
                # The chain members are led to other ones: nothing is led to 1, and all others are reached.
                f = LotMap(first, images)
                wanted = len(f.kernel) == 0 and f.image == other
                self.assertTrue(wanted)
            found[wanted] += 1
            self.assertIs(Book(one).is_like(Book(other)), wanted)
            self.assertIs(Book(other).is_like(Book(one)), wanted)
        self.assertGreater(min(found.values()), 20)

    def test_13_4_unlike_shapes_and_leads(self):
        book = Book(ALL3)
        for lot in (Lot((3,), (A.power(2), B.power(3))), Lot((4,), tuple(
                Stair.single((4,), place, 1) for place in ((0, 0, 1), (0, 1, 2)))),
                Lot((3, 2), (A.beside(Stair.read("4")), B.beside(Stair.read("-7"))))):
            self.assertIs(book.is_like(Book(lot)), True)
            self.assertIs(book == Book(lot), False)
        flat = Lot((2, 2, 2), tuple(Stair.single((2, 2, 2), (at, 0, 1), at + 2) for at in range(3)))
        self.assertIs(book.is_like(Book(flat)), False)
        self.assertIs(Book(flat).is_like(Book(Lot((4,), (Stair.read("0 0 1/0 0/0"), Stair.read("0 1 0/0 0/0"),
                                                           Stair.read("1 0 0/0 0/0"))))), True)
        for shape in ((4,), (3, 3), (6, 2)):
            mover = made_up_stair(random.Random(10), shape, 4)
            lot = Lot(shape, Lot.every(shape).chain[-3:])
            self.assertIs(Book(lot).is_like(Book(Lot(shape, tuple(one.led(mover) for one in lot.chain)))), True)

    def test_other_values(self):
        for value in VALUES:
            if not (isinstance(value, Book) and len(value) == 3):
                self.assertIs(Book(ALL3).is_like(value), False)
            if not isinstance(value, Book) or value.lot != ALL3:
                self.assertFalse(Book(ALL3) == value)
                self.assertTrue(Book(ALL3) != value)


class ClassTest(unittest.TestCase):
    def test_properties(self):
        book = Book(EVEN)
        self.assertIs(book.lot, EVEN)
        self.assertEqual((len(book), str(book), str(Book(Lot((2,), (Stair.read("3"),))))), (3, "book of 3 leads", "book of 1 leads"))
        with self.assertRaises(AttributeError):
            book.lot = None
        self.assertRaises(TypeError, iter, book)
        self.assertTrue(book == Book(Lot((3,), (B, A.power(2)))))
        self.assertFalse(book != Book(Lot((3,), (B, A.power(-2)))))

    def test_six_leads_and_seven(self):
        self.assertEqual(len(Book(Lot.every((4,)))), 6)
        self.assertEqual([len(forms) for forms in (Book(LADDER).products(), Book(LADDER).powers(), Book(LADDER).brackets())],
                         [6, 6, 6])
        for lot in (Lot.every((4, 2)), Lot.every((5,)), Lot.every((6, 2)), Lot((6,), Lot.every((6,)).chain[:5])):
            with self.assertRaises(TooMany) as caught:
                Book(lot)
            self.assertEqual(caught.exception.most, 6)


class WrongTest(unittest.TestCase):
    def test_lots(self):
        for value in VALUES:
            if not isinstance(value, Lot):
                self.assertRaises(InvalidLot, Book, value)

    def test_exponents(self):
        book = Book(Lot((3,), (A, C)))
        good = (1, 2)
        for value in VALUES + ((1, TOO_LONG), (1, True), (None, 2), [1, 2], (1, 2, 3), (1,)):
            if value in ((3, 2), (6, 3)):
                continue
            for call in (book.multiplied, book.exchanged):
                self.assertRaises(InvalidOperation, call, value, good)
                self.assertRaises(InvalidOperation, call, good, value)
                self.assertRaises(InvalidOperation, call, value, None)
            self.assertRaises(InvalidOperation, book.raised, value, 1)
            self.assertRaises(InvalidOperation, book.raised, value, None)

    def test_numbers(self):
        book = Book(ALL3)
        for value in VALUES:
            if isinstance(value, int) and not isinstance(value, bool) and abs(value) < TOO_LONG:
                continue
            with self.assertRaises(InvalidNumber) as caught:
                book.raised((1, 2, 3), value)
            self.assertIs(caught.exception.given, value)


if __name__ == "__main__":
    unittest.main()
