"""Derivations: steps from the makers of a lot to one of its members."""

from stairlots.base.shapes import check_shape
from stairlots.base.wholes import is_index
from stairlots.errors import InvalidOperation, InvalidStair, TooMany
from stairlots.lots.chains import divided, grown
from stairlots.lots.lots import check_lot, plan_for
from stairlots.stair.stairs import are_stairs, check_stair, stair_with
from stairlots.stair.tables import bracket, ones, plan_of, raised, times

MAX_STEPS = 3000

_MOST_STAIRS = 16
_MOST_POWERS = 20000


def worth(shape, stairs, steps):
    """The worth of steps from some stairs."""
    check_shape(shape)
    if not are_stairs(shape, stairs, _MOST_STAIRS):
        raise InvalidStair("steps start from a tuple of at most sixteen stairs of the shape")
    if not are_steps(len(stairs), steps):
        raise InvalidOperation("these are no steps from so many stairs")
    plan = plan_of(shape)
    return stair_with(shape, plan, worth_of(plan, [stair.numbers for stair in stairs], steps))


def derivation(lot, stair):
    """Any steps from the makers of the lot whose worth is the stair."""
    check_lot(lot)
    check_stair(lot.shape, stair)
    plan = plan_for(lot)
    chain, names, steps = grown(plan, [maker.numbers for maker in lot.makers])
    left, powers = divided(plan, chain, stair.numbers)
    if any(left):
        raise InvalidOperation("this stair is no member")
    if not powers:
        return ()
    last = ("product", tuple([(names[at], many) for at, many in powers]))
    found = needed_steps(steps + [last])
    if len(found) > MAX_STEPS:
        raise TooMany(MAX_STEPS)
    return found


def is_derivation(lot, stair, value):
    """Whether the value is a derivation of the stair in the lot."""
    check_lot(lot)
    check_stair(lot.shape, stair)
    if not are_steps(len(lot.makers), value):
        return False
    return worth_of(plan_for(lot), [maker.numbers for maker in lot.makers], value) == stair.numbers


def are_steps(many, value):
    """Whether the value is steps from so many stairs."""
    if not isinstance(value, tuple) or len(value) > MAX_STEPS:
        return False
    return all([is_step(many, at, step) for at, step in enumerate(value)])


def is_step(many, ahead, value):
    """Whether the value is a step from so many stairs, with so many steps ahead of it."""
    if not isinstance(value, tuple) or len(value) < 2 or not isinstance(value[0], str):
        return False
    if value[0] == "maker":
        return len(value) == 2 and is_index(value[1], many)
    if value[0] == "product":
        return len(value) == 2 and are_pairs(ahead, value[1])
    return value[0] == "bracket" and len(value) == 3 and is_index(value[1], ahead) and is_index(value[2], ahead)


def are_pairs(ahead, value):
    """Whether the value is a tuple of pairs of the index of one of so many steps and an integer."""
    if not isinstance(value, tuple):
        return False
    # There can be a great many pairs: what an index and an integer are is asked here, without further calls.
    for pair in value:
        if not isinstance(pair, tuple) or len(pair) != 2:
            return False
        index, many = pair
        if not isinstance(index, int) or not isinstance(many, int) or not 0 <= index < ahead:
            return False
        if isinstance(index, bool) or isinstance(many, bool):
            return False
    return True


def worth_of(plan, stairs, steps):
    """The entries of the worth of steps from stairs with these entries."""
    worths = []
    powers = {}
    for step in steps:
        if step[0] == "maker":
            worths.append(stairs[step[1]])
            continue
        if step[0] == "bracket":
            worths.append(bracket(plan, worths[step[1]], worths[step[2]]))
            continue
        found = None
        for pair in step[1]:
            power = powers.get(pair)
            if power is None:
                power = raised(plan, worths[pair[0]], pair[1])
                # The same powers often come again; not more are kept than are sure to find room.
                if len(powers) < _MOST_POWERS:
                    powers[pair] = power
            found = power if found is None else times(plan, found, power)
        worths.append(ones(plan) if found is None else found)
    return worths[-1] if worths else ones(plan)


def sources(step):
    """The indices of the steps from which a step is made."""
    if step[0] == "maker":
        return []
    if step[0] == "bracket":
        return [step[1], step[2]]
    return [index for index, _ in step[1]]


def needed_steps(steps):
    """The steps without those on which the last one does not rest."""
    needed = {len(steps) - 1: True}
    for at in reversed(range(len(steps))):
        if at in needed:
            for index in sources(steps[at]):
                needed[index] = True
    kept = sorted(needed)
    names = {old: new for new, old in enumerate(kept)}
    return tuple([renamed(steps[at], names) for at in kept])


def renamed(step, names):
    """The step with other names for the steps that it is made from."""
    if step[0] == "maker":
        return step
    if step[0] == "bracket":
        return ("bracket", names[step[1]], names[step[2]])
    return ("product", tuple([(names[index], many) for index, many in step[1]]))
