"""Books of exchanges: how the exponents of products, powers and brackets come of those of members."""

from stairlots.books.forms import bracket_of_tables, exponents_in, member_table, raised_table
from stairlots.books.polynomials import variable
from stairlots.errors import TooMany
from stairlots.lots.lots import check_lot, plan_for, rows_of
from stairlots.stair.tables import times

MAX_LEADS = 6


class Book:
    """The polynomials of a lot. It never changes."""

    def __init__(self, lot):
        check_lot(lot)
        if len(lot) > MAX_LEADS:
            raise TooMany(MAX_LEADS)
        self._lot = lot

    @property
    def lot(self):
        """The lot, as it was passed."""
        return self._lot

    def products(self):
        """The polynomials of the exponents of a product: first those of one member, then those of the other one."""
        plan = plan_for(self._lot)
        one, other = both_tables(self._lot)
        return exponents_in(plan, rows_of(self._lot), times(plan, one, other))

    def powers(self):
        """The polynomials of the exponents of a power: those of a member, then the number."""
        plan, chain, many = plan_for(self._lot), rows_of(self._lot), len(self._lot)
        table = member_table(plan, chain, many + 1, 0)
        return exponents_in(plan, chain, raised_table(plan, table, variable(many + 1, many)))

    def brackets(self):
        """The polynomials of the exponents of a bracket: first those of one member, then those of the other one."""
        plan = plan_for(self._lot)
        one, other = both_tables(self._lot)
        return exponents_in(plan, rows_of(self._lot), bracket_of_tables(plan, one, other))

    def multiplied(self, first, second):
        """The exponents of the product of two members."""
        return self._lot.exponents(self._lot.member(first) * self._lot.member(second))

    def raised(self, exponents, number):
        """The exponents of a power of a member."""
        return self._lot.exponents(self._lot.member(exponents).power(number))

    def exchanged(self, first, second):
        """The exponents of the bracket of two members."""
        one, other = self._lot.member(first), self._lot.member(second)
        return self._lot.exponents(one.bracket(other))

    def is_like(self, value):
        """Whether the value is a book with the same products."""
        return isinstance(value, Book) and len(value) == len(self) and value.products() == self.products()

    def __eq__(self, other):
        return isinstance(other, Book) and self._lot == other._lot

    def __len__(self):
        return len(self._lot)

    def __str__(self):
        return f"book of {len(self._lot)} leads"


def both_tables(lot):
    """The tables of forms of two members, the exponents of the first one being the first variables."""
    plan, chain, many = plan_for(lot), rows_of(lot), len(lot)
    return member_table(plan, chain, 2 * many, 0), member_table(plan, chain, 2 * many, many)
