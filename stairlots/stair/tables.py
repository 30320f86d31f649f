"""The arithmetic of stairs, as tuples of their entries in the order of the places.

A plan has for each place (b, i, k), in order, the pairs of the indices of (b, i, j) and (b, k, j), for each j behind k:
in a product the first one of them gets what stands at the place times what stands at the second one. With a modulus
other than 0 all entries that are passed or returned are remainders.
"""

from stairlots.base.shapes import places


def plan_of(shape):
    """The plan of a shape."""
    order = places(shape)
    at = {place: index for index, place in enumerate(order)}
    return tuple([tuple([(at[b, i, j], at[b, k, j]) for j in range(k + 1, shape[b])]) for b, i, k in order])


def beside(plan, other):
    """The plan of stairs of two plans side by side: the entries of the first one, then those of the second one."""
    many = len(plan)
    return plan + tuple([tuple([(at + many, high + many) for at, high in uses]) for uses in other])


def pairs_between(plan):
    """For each place (b, i, j), in order, the indices of (b, i, k) and (b, k, j) for each k between."""
    found = [[] for _ in plan]
    for low, uses in enumerate(plan):
        for at, high in uses:
            found[at].append((low, high))
    return found


def rest(numbers, modulus):
    """The remainders of the entries; the entries themselves for the modulus 0."""
    if modulus == 0:
        return tuple(numbers)
    return tuple([number % modulus for number in numbers])


def ones(plan):
    """The entries of one."""
    return tuple([0 for _ in plan])


def lone(plan, at, number):
    """The entries of the stair with the number at this index alone."""
    return tuple([number if index == at else 0 for index in range(len(plan))])


def lead_at(numbers):
    """The index of the first entry other than 0, or None."""
    for at, number in enumerate(numbers):
        if number:
            return at
    return None


def times(plan, one, other, modulus=0):
    """The product."""
    found = [a + b for a, b in zip(one, other)]
    for number, uses in zip(one, plan):
        if number:
            for at, high in uses:
                found[at] = found[at] + number * other[high]
    return rest(found, modulus)


def times_between(plan, one, other, modulus):
    """The product of the parts beside the ones."""
    found = [0 for _ in plan]
    for number, uses in zip(one, plan):
        if number:
            for at, high in uses:
                found[at] = found[at] + number * other[high]
    return rest(found, modulus)


def divided_by(plan, numbers, other, modulus):
    """The stair of which the product with the other one has these numbers, less the entries of the other one."""
    found = list(numbers)
    for low, uses in enumerate(plan):
        if modulus:
            found[low] = found[low] % modulus
        number = found[low]
        if number:
            for at, high in uses:
                found[at] = found[at] - number * other[high]
    return tuple(found)


def undone(plan, numbers, modulus=0):
    """What undoes it."""
    return divided_by(plan, [-number for number in numbers], numbers, modulus)


def bracket(plan, one, other, modulus=0):
    """The product of both less what the opposite product does."""
    if not any(plan):
        return ones(plan)
    there = times(plan, one, other, modulus)
    back = times(plan, other, one, modulus)
    return divided_by(plan, [a - b for a, b in zip(there, back)], back, modulus)


def led(plan, numbers, other, modulus=0):
    """The stair to which the other one leads it."""
    there = times(plan, other, numbers, modulus)
    return divided_by(plan, [a - b for a, b in zip(there, other)], other, modulus)


def raised(plan, numbers, many, modulus=0):
    """The power, by any integer: the sum of choose(many, k) times the k-th power of the part beside the ones."""
    if many == 1:
        return numbers
    if many == -1:
        return undone(plan, numbers, modulus)
    found = [many * number for number in numbers]
    if not any(plan):
        return rest(found, modulus)
    part = numbers
    share = many
    taken = 1
    while share:
        part = times_between(plan, part, numbers, modulus)
        if not any(part):
            break
        share = share * (many - taken) // (taken + 1)
        taken += 1
        factor = share % modulus if modulus else share
        found = [number + factor * entry for number, entry in zip(found, part)]
    return rest(found, modulus)
