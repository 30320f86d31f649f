"""Chains of lots, by the entries of their members.

A chain has for each index of a place the entries of the member with its lead there, or None. It is *closed* if the
products of powers of its members, in their order, are all members of a lot. With a modulus other than 0 all entries are
remainders.
"""

from stairlots.base.wholes import shared_divisor
from stairlots.stair.tables import bracket, lead_at, raised, times, undone


def divided(plan, chain, numbers, modulus=0):
    """What is left of a stair behind the powers by which it can be divided from the left, and these powers."""
    powers = []
    for at, member in enumerate(chain):
        number = numbers[at]
        if number == 0:
            continue
        if member is None or number % member[at]:
            break
        many = number // member[at]
        powers.append((at, many))
        numbers = times(plan, raised(plan, member, -many, modulus), numbers, modulus)
    return numbers, powers


def has_member(plan, chain, numbers):
    """Whether the stair with these entries is a member."""
    return not any(divided(plan, chain, numbers)[0])


def shortened(plan, chain, numbers, modulus=0):
    """The stair with the least entries behind its lead, and the powers it is multiplied by from the right."""
    powers = []
    lead = lead_at(numbers)
    if lead is None:
        return numbers, powers
    for at in range(lead + 1, len(chain)):
        if chain[at] is None or 0 <= numbers[at] < chain[at][at]:
            continue
        many = -(numbers[at] // chain[at][at])
        powers.append((at, many))
        numbers = times(plan, numbers, raised(plan, chain[at], many, modulus), modulus)
    return numbers, powers


def least_rows(plan, chain, modulus=0):
    """The least chain for a closed one."""
    least = list(chain)
    for at in reversed(range(len(plan))):
        if least[at] is not None:
            least[at] = shortened(plan, least, least[at], modulus)[0]
    return least


def neat(plan, chain, names, name, numbers):
    """What the chain leaves of a stair, its lead number above 0, and the powers of steps that make it."""
    numbers, powers = divided(plan, chain, numbers)
    pairs = [(names[at], -many) for at, many in reversed(powers)] + [(name, 1)]
    lead = lead_at(numbers)
    if lead is not None and numbers[lead] < 0:
        numbers = undone(plan, numbers)
        pairs = [(step, -many) for step, many in reversed(pairs)]
    numbers, powers = shortened(plan, chain, numbers)
    return numbers, tuple(pairs + [(names[at], many) for at, many in powers])


def mixed(plan, one, other, lead):
    """Two products of powers of two stairs with this lead, as (entries, power of one, power of the other).

    The first one has the greatest common divisor as its lead number; the second one leads further behind. What both
    stairs make, these two make as well: they do so but for brackets, and with the brackets of what they make.
    """
    divisor, share, other_share = shared_divisor(one[lead], other[lead])
    found = []
    for first, second in ((share, other_share), (-(other[lead] // divisor), one[lead] // divisor)):
        made = times(plan, raised(plan, one, first), raised(plan, other, second))
        found.append((made, first, second))
    return found


def placed(plan, chain, names, first, numbers, step):
    """A chain with a further stair, the worth of a step: its members, their names, the steps, and the changed places.

    The first of the steps is to get the name `first`. The brackets with what is new are not looked at.
    """
    found = list(chain)
    called = list(names)
    steps = []
    changed = []
    while True:
        name = first + len(steps)
        numbers, powers = neat(plan, found, called, name, numbers)
        lead = lead_at(numbers)
        if lead is None:
            return found, called, steps, changed
        steps.append(step)
        if powers != ((name, 1),):
            steps.append(("product", powers))
            name += 1
        changed.append(lead)
        if found[lead] is None:
            found[lead] = numbers
            called[lead] = name
            return found, called, steps, changed
        (fresh, one, other), (numbers, back, forth) = mixed(plan, found[lead], numbers, lead)
        step = ("product", ((called[lead], back), (name, forth)))
        steps.append(("product", ((called[lead], one), (name, other))))
        found[lead] = fresh
        called[lead] = name + 1


def tidied(plan, chain, names, first):
    """The least chain for a closed one, its names, and the steps, from the name `first` on, that lead to it."""
    least = list(chain)
    called = list(names)
    steps = []
    for at in reversed(range(len(plan))):
        if least[at] is None:
            continue
        numbers, powers = shortened(plan, least, least[at])
        if powers:
            steps.append(("product", tuple([(called[at], 1)] + [(called[place], many) for place, many in powers])))
            least[at] = numbers
            called[at] = first + len(steps) - 1
    return least, called, steps


def reaches(plan):
    """For each index the last one for which stairs that lead at these two can have a bracket other than one."""
    found = [0 for _ in plan]
    for low, uses in enumerate(plan):
        for _, high in uses:
            found[min(low, high)] = max(found[min(low, high)], low, high)
    for at in reversed(range(len(plan) - 1)):
        found[at] = max(found[at], found[at + 1])
    return found


def open_pairs(reach, chain, changed):
    """The pairs of indices, the greater one first, with a changed one, of chain members with a bracket to look at."""
    there = [at for at, member in enumerate(chain) if member is not None]
    return [(high, low) for low in there for high in there
            if low < high <= reach[low] and (low in changed or high in changed)]


def by_leads(makers):
    """The indices of all makers but ones, those whose leads stand ahead first."""
    return sorted([at for at, numbers in enumerate(makers) if any(numbers)], key=lambda at: lead_at(makers[at]))


def led_pairs(leaders, changed):
    """The pairs of a changed index and, below 0, the place of a leader counted from behind the first one."""
    return [(at, -1 - index) for at in changed for index in range(len(leaders))]


def grown(plan, makers, leaders=(), stop=None):
    """The least chain of what some stairs make, the names of its members, and steps from the makers.

    A name is the index of the step whose worth the member is. With leaders, further stairs, the chain is that of the
    least lot that these lead into itself, and the steps are of no use. As soon as a member leads at the index `stop` or
    behind it, all that there is so far is returned.
    """
    reach = reaches(plan)
    chain = [None for _ in plan]
    names = [None for _ in plan]
    steps = []
    pairs = []
    waiting = list(by_leads(makers))
    while pairs or waiting:
        # What stands furthest behind comes first: it keeps the entries of all that follows small.
        if pairs:
            high, low = pairs.pop()
            numbers = bracket(plan, leaders[-1 - low] if low < 0 else chain[low], chain[high])
            step = ("bracket", None if low < 0 else names[low], names[high])
        else:
            index = waiting.pop()
            numbers, step = makers[index], ("maker", index)
        found, called, more, changed = placed(plan, chain, names, len(steps), numbers, step)
        if changed:
            steps.extend(more)
            least, called, more = tidied(plan, found, called, len(steps))
            steps.extend(more)
            chain = least
            names = called
            if stop is not None and changed[-1] >= stop:
                break
            pairs = sorted(set(pairs + open_pairs(reach, chain, changed) + led_pairs(leaders, changed)))
    return chain, names, steps
