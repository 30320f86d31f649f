"""Polynomials with ratios, in variables that are called x0, x1 and so on.

The exponents of a term are kept as one integer, its code: they are its digits to the base 256, the first one in front.
So the code of a product of terms is the sum of both codes, and codes ascend as the tuples of the exponents do.
"""

from math import gcd, lcm

from stairlots.base.ratios import Ratio, ratio_of
from stairlots.base.wholes import is_between, is_integer
from stairlots.books.folds import has_long_product
from stairlots.errors import InvalidOperation, InvalidPolynomial, TooMany

MAX_VARIABLES = 12
MAX_TERMS = 5000
MAX_EXPONENT = 60

_BASE = 256
# With the first one added, each digit from 61 to 127 gets the bit that the second one has there.
_LIFT = 67 * ((256 ** 12 - 1) // 255)
_HIGH = 128 * ((256 ** 12 - 1) // 255)
_MOST_BOTTOM = 10 ** 60 * 10 ** 60
_FEW_PAIRS = 200000


class Polynomial:
    """A polynomial in so many variables. It never changes."""

    def __init__(self, variables, terms):
        if not is_between(variables, 0, MAX_VARIABLES) or not are_terms(variables, terms):
            raise InvalidPolynomial("these are no terms in so many variables")
        found = {code_of(exponents): terms[exponents] for exponents in terms if terms[exponents]}
        self._variables = variables
        self._terms = {code: found[code] for code in sorted(found)}

    @property
    def variables(self):
        """The number of the variables."""
        return self._variables

    @property
    def terms(self):
        """The dict from the exponents to the ratios, which are not 0."""
        return {exponents_of(code, self._variables): ratio for code, ratio in self._terms.items()}

    def value_at(self, numbers):
        """The value at some numbers, one for each variable."""
        if not isinstance(numbers, tuple) or len(numbers) != self._variables:
            raise InvalidOperation("there is one number for each variable")
        if not all([is_integer(number) for number in numbers]):
            raise InvalidOperation("numbers are integers")
        return value_of(self._variables, self._terms, numbers)

    def __add__(self, other):
        if not isinstance(other, Polynomial):
            return NotImplemented
        check_variables(self, other)
        return polynomial_of(self._variables, sum_of(self._terms, other._terms))

    def __sub__(self, other):
        if not isinstance(other, Polynomial):
            return NotImplemented
        check_variables(self, other)
        return polynomial_of(self._variables, sum_of(self._terms, {at: -ratio for at, ratio in other._terms.items()}))

    def __mul__(self, other):
        if not isinstance(other, Polynomial):
            return NotImplemented
        check_variables(self, other)
        return polynomial_of(self._variables, product_of(self._terms, other._terms))

    def __eq__(self, other):
        return isinstance(other, Polynomial) and self._variables == other._variables and self._terms == other._terms

    def __bool__(self):
        return bool(self._terms)

    def __len__(self):
        return len(self._terms)

    def __str__(self):
        if not self._terms:
            return "0"
        return "".join([text_of(at, exponents, ratio) for at, (exponents, ratio) in enumerate(descending(self))])


def are_terms(variables, value):
    """Whether the value is a dict of terms in so many variables."""
    if not isinstance(value, dict) or len(value) > MAX_TERMS:
        return False
    return all([are_exponents(variables, at) and isinstance(ratio, Ratio) for at, ratio in value.items()])


def are_exponents(variables, value):
    """Whether the value is a tuple of exponents, one for each variable."""
    if not isinstance(value, tuple) or len(value) != variables:
        return False
    return all([is_between(number, 0, MAX_EXPONENT) for number in value])


def code_of(exponents):
    """The code of a term."""
    found = 0
    for number in exponents:
        found = found * _BASE + number
    return found


def exponents_of(code, variables):
    """The exponents of a term with a code."""
    found = []
    for _ in range(variables):
        found.append(code % _BASE)
        code = code // _BASE
    return tuple(reversed(found))


def polynomial_of(variables, found):
    """The polynomial of terms under their codes, those with 0 left out.

    TooMany if there are more than there can be, or if an exponent is greater.
    """
    codes = sorted([code for code in found if found[code]])
    if len(codes) > MAX_TERMS:
        raise TooMany(MAX_TERMS)
    if any([(code + _LIFT) & _HIGH for code in codes]):
        raise TooMany(MAX_EXPONENT)
    made = Polynomial(0, {})
    made._variables = variables
    made._terms = {code: found[code] for code in codes}
    return made


def constant(variables, ratio):
    """The polynomial that is a ratio."""
    return polynomial_of(variables, {0: ratio})


def variable(variables, at):
    """The polynomial that is the variable with this index."""
    return polynomial_of(variables, {code_of([1 if index == at else 0 for index in range(variables)]): ratio_of(1, 1)})


def scaled(polynomial, top, bottom=1):
    """The polynomial, multiplied by the ratio of two integers of any length."""
    factor = ratio_of(top, bottom)
    return polynomial_of(polynomial._variables, {code: ratio * factor for code, ratio in polynomial._terms.items()})


def check_variables(one, other):
    """InvalidPolynomial unless both polynomials are in as many variables."""
    if one._variables != other._variables:
        raise InvalidPolynomial("the polynomials have unlike numbers of variables")


def sum_of(one, other):
    """The terms of the sum, some of them perhaps with 0."""
    found = {code: one[code] for code in one}
    for code, ratio in other.items():
        found[code] = found[code] + ratio if code in found else ratio
    return found


def product_of(one, other):
    """The terms of the product, some of them perhaps with 0."""
    if len(one) * len(other) > _FEW_PAIRS and has_long_product(one, other, MAX_TERMS):
        raise TooMany(MAX_TERMS)
    bottom, other_bottom = common_bottom(one), common_bottom(other)
    if bottom is None or other_bottom is None:
        return product_by_ratios(one, other)
    found = product_by_integers(whole_terms(one, bottom), whole_terms(other, other_bottom))
    return {code: ratio_of(number, bottom * other_bottom) for code, number in found.items()}


def product_by_integers(one, other):
    """The terms of the product of terms with integers."""
    found = {}
    for code, factor in one.items():
        for low, number in other.items():
            spot = code + low
            found[spot] = found.get(spot, 0) + factor * number
    return found


def product_by_ratios(one, other):
    """The terms of the product of terms with ratios."""
    found = {}
    for code, factor in one.items():
        for low, ratio in other.items():
            found.setdefault(code + low, []).append((factor.top * ratio.top, factor.bottom * ratio.bottom))
    return {code: sum_of_pairs(pairs) for code, pairs in found.items()}


def sum_of_pairs(pairs):
    """The sum of ratios, as pairs of tops and bottoms: by halves, so that few of the sums have long bottoms."""
    if not pairs:
        return Ratio(0)
    left = pairs
    while len(left) > 1:
        found = [joined_pairs(left[at], left[at + 1]) for at in range(0, len(left) - 1, 2)]
        left = found + left[2 * len(found):]
    top, bottom = left[0]
    return ratio_of(top, bottom)


def joined_pairs(one, other):
    """The sum of two ratios as pairs."""
    top, bottom = one
    other_top, other_bottom = other
    if bottom == other_bottom:
        return top + other_top, bottom
    divisor = gcd(bottom, other_bottom)
    share = other_bottom // divisor
    return top * share + other_top * (bottom // divisor), bottom * share


def common_bottom(terms):
    """The least integer that makes all ratios integers, or None if it is long: then it is better not to use it."""
    found = 1
    for ratio in terms.values():
        found = lcm(found, ratio.bottom)
        if found > _MOST_BOTTOM:
            return None
    return found


def whole_terms(terms, bottom):
    """The terms, multiplied by an integer that makes all ratios integers."""
    return {code: ratio.top * (bottom // ratio.bottom) for code, ratio in terms.items()}


def value_of(variables, terms, numbers):
    """The value of terms."""
    rows = [exponents_of(code, variables) for code in terms]
    powers = [powers_of(number, max([row[at] for row in rows], default=0)) for at, number in enumerate(numbers)]
    pairs = []
    for exponents, ratio in zip(rows, list(terms.values())):
        made = ratio.top
        for at, exponent in enumerate(exponents):
            if exponent:
                made = made * powers[at][exponent]
        pairs.append((made, ratio.bottom))
    return sum_of_pairs(pairs)


def powers_of(number, most):
    """The powers of an integer with the exponents from 0 to `most`."""
    found = [1]
    for _ in range(most):
        found.append(found[-1] * number)
    return found


def descending(polynomial):
    """The pairs of the exponents and the ratio of each term, those with the greatest exponents first."""
    return list(reversed(list(polynomial.terms.items())))


def text_of(at, exponents, ratio):
    """A term, with what stands ahead of it as the term with this index."""
    size = -ratio if ratio.sign < 0 else ratio
    parts = [variable_text(index, number) for index, number in enumerate(exponents) if number]
    if size.compared(1) or not parts:
        parts = [str(size)] + parts
    return f"{sign_ahead(at, ratio)}{'*'.join(parts)}"


def sign_ahead(at, ratio):
    """The sign of the term with this index."""
    if at == 0:
        return "-" if ratio.sign < 0 else ""
    return " - " if ratio.sign < 0 else " + "


def variable_text(at, number):
    """A variable with its exponent."""
    return f"x{at}" if number == 1 else f"x{at}^{number}"
