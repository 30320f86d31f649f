"""Numbers of candidates and of lots, without listing them: they are products over the primes of the index."""


def prime_powers(number):
    """The pairs of the primes that divide an integer and their exponents in it."""
    found = []
    trial = 2
    while trial * trial <= number:
        many = 0
        while number % trial == 0:
            number = number // trial
            many += 1
        if many:
            found.append((trial, many))
        trial += 1
    return found + [(number, 1)] if number > 1 else found


def candidates(size, number):
    """The number of candidates with so many rows for an index."""
    found = 1
    for prime, many in prime_powers(number):
        found = found * candidates_of_power(size, prime, many)
    return found


def candidates_of_power(size, prime, many):
    """The number of candidates with so many rows for a power of a prime.

    The leads are powers of the prime with exponents e. So it is the sum of the powers of the prime with the exponents
    1 * e(1) + 2 * e(2) + .., over all e with the sum `many`. It is found row by row, for all sums up to this one.
    """
    found = [0 if at else 1 for at in range(many + 1)]
    factor = 1
    for _ in range(size):
        for at in range(many):
            found[at + 1] = found[at + 1] + factor * found[at]
        factor = factor * prime
    return found[many]


def lots_of_power(prime, many):
    """The number of the lots in all stairs of the shape (3,) whose index is a power of a prime."""
    return sum([power(prime, b + 2 * c) for a, b, c in triples(many) if c <= a + b])


def normal_of_power(prime, many):
    """The number of the normal ones of these lots."""
    return sum([power(prime, b + c) for a, b, c in triples(many) if c <= a and c <= b])


def triples(many):
    """The triples of integers of at least 0 with this sum."""
    return [(many - b - c, b, c) for c in range(many + 1) for b in range(many + 1 - c)]


def power(prime, many):
    """The power of a prime."""
    found = 1
    for _ in range(many):
        found = found * prime
    return found
