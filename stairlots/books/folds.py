"""Folds: a quick way to see that a product has many terms.

Terms, told by their codes, are put into slots: those whose codes have equal remainders into the same one. In each slot
their numbers are added, modulo a prime. What is in the slots of a product comes of what is in the slots of its factors
alone. A slot of the product with another number than 0 has at least one term, so there are as many terms or more. The
slots are made one great integer each, as Python multiplies these quickly.
"""

from stairlots.base.wholes import shared_divisor

_PRIME = 2147483629
_DIGITS = 20
_SHARE = 3


def has_long_product(one, other, most):
    """Whether it is sure that the product of terms with ratios has more terms than that."""
    many = _SHARE * most + 1
    first, second = slots_of(one, many), slots_of(other, many)
    if first is None or second is None:
        return False
    found = slots_in(joined_slots(first) * joined_slots(second), 2 * many)
    there = [at for at in range(many) if (found[at] + found[at + many]) % _PRIME]
    return len(there) > most


def slots_of(terms, many):
    """The numbers in so many slots, modulo the prime; None if it divides a bottom."""
    found = [0 for _ in range(many)]
    for code, ratio in terms.items():
        divisor, share, _ = shared_divisor(ratio.bottom, _PRIME)
        if divisor > 1:
            return None
        found[code % many] = (found[code % many] + ratio.top * share) % _PRIME
    return found


def joined_slots(numbers):
    """The integer with these numbers as its digits, the last one in front, each of so many digits to the base 16."""
    return int("".join([f"{number:x}".rjust(_DIGITS, "0") for number in reversed(numbers)]), 16)


def slots_in(number, many):
    """The numbers that so many slots of an integer have."""
    text = f"{number:x}".rjust(many * _DIGITS, "0")
    found = [int(text[at:at + _DIGITS], 16) for at in range(0, many * _DIGITS, _DIGITS)]
    return list(reversed(found))
