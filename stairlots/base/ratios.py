"""Ratios of two integers."""

from math import gcd

from stairlots.base.wholes import is_integer, is_whole, read_integer
from stairlots.errors import InvalidNumber, InvalidOperation, ParseError


class Ratio:
    """The ratio of two integers, in lowest terms. It never changes."""

    def __init__(self, top, bottom=1):
        if not is_integer(top):
            raise InvalidNumber(top)
        if not is_integer(bottom) or bottom == 0:
            raise InvalidNumber(bottom)
        divisor = divisor_of_terms(top, bottom)
        self._top = top // divisor
        self._bottom = bottom // divisor

    @classmethod
    def read(cls, text):
        """The ratio whose `str` the text is."""
        parts = text.split("/") if isinstance(text, str) else []
        terms = [read_integer(part) for part in parts]
        if len(terms) not in (1, 2) or None in terms or 0 in terms[1:]:
            raise ParseError(0)
        made = cls(terms[0], 1 if len(terms) == 1 else terms[1])
        if str(made) != text:
            raise ParseError(0)
        return made

    @property
    def top(self):
        """The number above, in lowest terms."""
        return self._top

    @property
    def bottom(self):
        """The number below, in lowest terms, at least 1."""
        return self._bottom

    @property
    def sign(self):
        """-1, 0 or 1 for a ratio below 0, 0, or above 0."""
        return sign_of(self._top)

    def __add__(self, other):
        if not is_operand(other):
            return NotImplemented
        top, bottom = terms_of(other)
        return ratio_of(self._top * bottom + top * self._bottom, self._bottom * bottom)

    def __sub__(self, other):
        if not is_operand(other):
            return NotImplemented
        top, bottom = terms_of(other)
        return ratio_of(self._top * bottom - top * self._bottom, self._bottom * bottom)

    def __mul__(self, other):
        if not is_operand(other):
            return NotImplemented
        top, bottom = terms_of(other)
        return ratio_of(self._top * top, self._bottom * bottom)

    def __neg__(self):
        return ratio_of(-self._top, self._bottom)

    def over(self, other):
        """The ratio divided by a ratio or an integer."""
        if not is_operand(other):
            raise InvalidNumber(other)
        top, bottom = terms_of(other)
        if top == 0:
            raise InvalidOperation("nothing is divided by 0")
        return ratio_of(self._top * bottom, self._bottom * top)

    def compared(self, other):
        """-1, 0 or 1 for a ratio below, equal to, or above the other one."""
        if not is_operand(other):
            raise InvalidNumber(other)
        top, bottom = terms_of(other)
        return sign_of(self._top * bottom - top * self._bottom)

    def __eq__(self, other):
        return isinstance(other, Ratio) and self._top == other._top and self._bottom == other._bottom

    def __bool__(self):
        return bool(self._top)

    def __str__(self):
        if self._bottom == 1:
            return str(self._top)
        return f"{self._top}/{self._bottom}"


def sign_of(number):
    """-1, 0 or 1."""
    if number == 0:
        return 0
    return 1 if number > 0 else -1


def divisor_of_terms(top, bottom):
    """What top and bottom are divided by for the lowest terms with a bottom of at least 1."""
    divisor = gcd(top, bottom)
    return -divisor if bottom < 0 else divisor


def ratio_of(top, bottom):
    """The ratio of two integers of any length."""
    divisor = divisor_of_terms(top, bottom)
    made = Ratio(0)
    made._top = top // divisor
    made._bottom = bottom // divisor
    return made


def is_operand(value):
    """Whether the value is a ratio, or an integer of any length."""
    return isinstance(value, Ratio) or is_whole(value)


def terms_of(operand):
    """The top and the bottom of a ratio or an integer."""
    if isinstance(operand, Ratio):
        return operand._top, operand._bottom
    return operand, 1
