"""Forms: what entries and exponents are if the exponents of members are variables.

A form is a polynomial. A table of forms has one for each place, as tuples of entries do (see stairlots.stair.tables).
"""

from stairlots.base.ratios import ratio_of
from stairlots.books.polynomials import Polynomial, constant, scaled, variable
from stairlots.stair.tables import divided_by, times, times_between


def following(form, chosen, many):
    """The binomial coefficient of a form for `many` and 1 more, from that for `many`."""
    return scaled(chosen * (form - constant(form.variables, ratio_of(many, 1))), 1, many + 1)


def power_of(plan, numbers, exponent):
    """The table of a stair with these entries to the power of a form."""
    found = [scaled(exponent, number) for number in numbers]
    part = numbers
    chosen = exponent
    many = 1
    while True:
        part = times_between(plan, part, numbers, 0)
        if not any(part):
            return found
        chosen = following(exponent, chosen, many)
        many += 1
        found = [form + scaled(chosen, number) for form, number in zip(found, part)]


def raised_table(plan, table, exponent):
    """A table of forms to the power of a form."""
    found = [exponent * form for form in table]
    part = table
    chosen = exponent
    many = 1
    while True:
        part = [made - one - other for made, one, other in zip(times(plan, part, table), part, table)]
        if not any([bool(form) for form in part]):
            return found
        chosen = following(exponent, chosen, many)
        many += 1
        found = [form + chosen * other for form, other in zip(found, part)]


def bracket_of_tables(plan, one, other):
    """The table of the bracket of two tables of forms."""
    there = times(plan, one, other)
    back = times(plan, other, one)
    return divided_by(plan, [a - b for a, b in zip(there, back)], back, 0)


def member_table(plan, chain, variables, first):
    """The table of the member whose exponents are the variables from this one on."""
    found = [Polynomial(variables, {}) for _ in plan]
    for at, row in enumerate([row for row in chain if row is not None]):
        found = times(plan, found, power_of(plan, row, variable(variables, first + at)))
    return found


def exponents_in(plan, chain, table):
    """The forms of the exponents of a table of forms that is a member whatever its variables are."""
    found = []
    for at, row in enumerate(chain):
        if row is not None:
            exponent = scaled(table[at], 1, row[at])
            found.append(exponent)
            table = times(plan, power_of(plan, row, scaled(exponent, -1)), table)
    return tuple(found)
