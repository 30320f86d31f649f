"""The arithmetic of stairs, as tuples of their entries in the order of the places.

A plan tells which entries meet in a product. With a modulus other than 0 all results are remainders.
"""

from stairlots.base.shapes import places


def plan_of(shape):
    """For each place (b, i, j), in order, the indices of (b, i, k) and (b, k, j) for each k between."""
    order = places(shape)
    at = {place: index for index, place in enumerate(order)}
    return tuple([tuple([(at[b, i, k], at[b, k, j]) for k in range(i + 1, j)]) for b, i, j in order])


def rest(numbers, modulus):
    """The remainders of the entries; the entries themselves for the modulus 0."""
    if modulus == 0:
        return numbers
    return tuple([number % modulus for number in numbers])


def ones(plan):
    """The entries of one."""
    return tuple([0] * len(plan))


def lone(plan, at, number):
    """The entries of the stair with the number at this index alone."""
    return tuple([number if index == at else 0 for index in range(len(plan))])


def lead_at(numbers):
    """The index of the first entry other than 0, or None."""
    for at, number in enumerate(numbers):
        if number:
            return at
    return None


def between(pairs, one, other):
    """What a place gets in a product from the places between."""
    return sum([one[low] * other[high] for low, high in pairs])


def times(plan, one, other, modulus=0):
    """The product."""
    found = [a + b + between(pairs, one, other) for a, b, pairs in zip(one, other, plan)]
    return rest(tuple(found), modulus)


def undone(plan, numbers, modulus=0):
    """What undoes it."""
    found = []
    for number, pairs in zip(numbers, plan):
        entry = -number - between(pairs, numbers, found)
        found.append(entry % modulus if modulus else entry)
    return tuple(found)


def raised(plan, numbers, many, modulus=0):
    """The power, by any integer: the sum of choose(many, k) times the k-th power of the part beside the ones."""
    found = [0] * len(plan)
    part = numbers
    share = many
    taken = 1
    while any(part):
        found = [number + share * entry for number, entry in zip(found, part)]
        part = rest(tuple([between(pairs, part, numbers) for pairs in plan]), modulus)
        share = share * (many - taken) // (taken + 1)
        taken += 1
    return rest(tuple(found), modulus)


def bracket(plan, one, other, modulus=0):
    """The product of both less what the opposite product does."""
    there = times(plan, one, other, modulus)
    back = times(plan, other, one, modulus)
    return times(plan, there, undone(plan, back, modulus), modulus)
