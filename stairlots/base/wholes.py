"""Integers: what counts as one, and a few things that are done with them."""

from math import gcd

from stairlots.errors import InvalidNumber

MAX_DIGITS = 60

_LIMIT = 10 ** 60
_MODULUS_DIGITS = 4000
_MODULUS_BITS = 13288
_MOST_CHOSEN = 60
_MOST_DIVIDED = 10 ** 6


def is_whole(value):
    """Whether the value is an integer of any length; True and False are none."""
    return isinstance(value, int) and not isinstance(value, bool)


def is_integer(value):
    """Whether the value is an integer of at most sixty digits."""
    return is_whole(value) and abs(value) < _LIMIT


def is_between(value, least, most):
    """Whether the value is an integer from `least` to `most`."""
    return is_whole(value) and least <= value <= most


def is_index(value, many):
    """Whether the value is an integer from 0 to `many` less 1."""
    return is_between(value, 0, many - 1)


def power_of_ten(many):
    """The product of so many tens."""
    found = 1
    for _ in range(many // 50):
        found = found * 10 ** 50
    for _ in range(many % 50):
        found = found * 10
    return found


def is_short(number):
    """Whether an integer has at most 4000 digits."""
    bits = number.bit_length()
    return bits < _MODULUS_BITS or bits == _MODULUS_BITS and abs(number) < power_of_ten(_MODULUS_DIGITS)


def is_modulus(value):
    """Whether the value is an integer of at least 2 with at most 4000 digits."""
    return is_whole(value) and value >= 2 and is_short(value)


def binomial(number, many):
    """The binomial coefficient of an integer of any sign and length, for `many` of at least 0."""
    found = 1
    for taken in range(many):
        # The product of so many neighbours is always a multiple: nothing is cut off here.
        found = found * (number - taken) // (taken + 1)
    return found


def choose(number, many):
    """The binomial coefficient of an integer of any sign."""
    if not is_integer(number):
        raise InvalidNumber(number)
    if not is_between(many, 0, _MOST_CHOSEN):
        raise InvalidNumber(many)
    return binomial(number, many)


def shared_divisor(one, other):
    """(g, a, b) with g, the greatest common divisor, equal to a * one + b * other."""
    high, low = one, other
    share, following = 1, 0
    while low:
        times = high // low
        high, low = low, high - times * low
        share, following = following, share - times * following
    if high < 0:
        high, share = -high, -share
    rest = 0 if other == 0 else (high - share * one) // other
    return high, share, rest


def common_divisor(one, other):
    """The greatest common divisor of two integers; 0 only for two zeros."""
    if not is_integer(one):
        raise InvalidNumber(one)
    if not is_integer(other):
        raise InvalidNumber(other)
    return gcd(one, other)


def divisors(number):
    """The ascending tuple of all divisors of an integer from 1 to 10 ** 6."""
    if not is_between(number, 1, _MOST_DIVIDED):
        raise InvalidNumber(number)
    low = []
    trial = 1
    while trial * trial <= number:
        if number % trial == 0:
            low.append(trial)
        trial += 1
    high = [number // small for small in reversed(low) if small * small != number]
    return tuple(low + high)


def read_integer(text):
    """The integer of at most sixty digits whose `str` the text is, or None."""
    digits = text[1:] if text[:1] == "-" else text
    if digits == "" or len(digits) > MAX_DIGITS:
        return None
    if not all([sign in "0123456789" for sign in digits]):
        return None
    if digits[0] == "0" and text != "0":
        return None
    return int(text)
