"""[1.1], [1.2]: the errors and what they keep."""

import unittest

from stairlots import errors


class ErrorsTest(unittest.TestCase):
    def test_1_1_base_classes(self):
        self.assertEqual(errors.StairlotError.__bases__, (ValueError,))
        names = ("InvalidShape", "InvalidStair", "InvalidLot", "InvalidMap", "InvalidPolynomial", "InvalidSpan",
                 "InvalidOperation", "ParseError")
        for name in names:
            self.assertEqual(getattr(errors, name).__bases__, (errors.StairlotError,), name)
            self.assertEqual(getattr(errors, name).__module__, "stairlots.errors")

    def test_1_1_messages(self):
        for name in ("InvalidShape", "InvalidStair", "InvalidLot", "InvalidMap", "InvalidPolynomial", "InvalidSpan",
                     "InvalidOperation", "StairlotError"):
            self.assertEqual(str(getattr(errors, name)("what is wrong")), "what is wrong")

    def test_1_1_parse_error_keeps_its_spot(self):
        for spot in (0, 7, None, "x", (1, [2]), {}):
            self.assertIs(errors.ParseError(spot).spot, spot)

    def test_1_2_base_classes(self):
        expected = {"InvalidNumber": IndexError, "UnknownName": KeyError, "TooMany": OverflowError,
                    "Refused": ArithmeticError, "NothingToUndo": LookupError}
        for name, base in expected.items():
            self.assertEqual(getattr(errors, name).__bases__, (base,), name)
            self.assertFalse(issubclass(getattr(errors, name), errors.StairlotError))

    def test_1_2_what_they_keep(self):
        for value in (0, -3, None, True, "x", [1], {}, (2,), 10 ** 100):
            self.assertIs(errors.InvalidNumber(value).given, value)
            self.assertIs(errors.UnknownName(value).wanted, value)
        self.assertEqual(errors.TooMany(8).most, 8)
        reason = ("led", 0, [1])
        self.assertIs(errors.Refused(reason).reason, reason)
        self.assertEqual(errors.NothingToUndo(3).many, 3)

    def test_they_can_be_raised_and_caught(self):
        with self.assertRaises(IndexError) as caught:
            raise errors.InvalidNumber([])
        self.assertEqual(caught.exception.given, [])
        with self.assertRaises(ValueError) as caught:
            raise errors.ParseError(4)
        self.assertEqual(caught.exception.spot, 4)


if __name__ == "__main__":
    unittest.main()
