"""Stairs: tables of integers with ones from corner to corner and zeros beneath."""

from stairlots.base.shapes import MAX_BOXES, check_shape, is_place, is_shape, places
from stairlots.base.wholes import is_index, is_integer, read_integer
from stairlots.errors import InvalidNumber, InvalidStair, ParseError, TooMany
from stairlots.stair.tables import bracket, lead_at, led, plan_of, raised, times, undone

_LEAST_SHAPE = (2,)


class Stair:
    """The stair of a shape with the entries of a dict from places. It never changes."""

    def __init__(self, shape, entries):
        check_shape(shape)
        if not are_entries(shape, entries):
            raise InvalidStair("these are no entries of the shape")
        self._shape = shape
        self._plan = plan_of(shape)
        self._numbers = tuple([entries.get(place, 0) for place in places(shape)])

    @classmethod
    def one(cls, shape):
        """The stair with 0 at all places."""
        return cls(shape, {})

    @classmethod
    def single(cls, shape, place, number):
        """The stair with the number at one place, and 0 at all others."""
        if not is_place(shape, place):
            raise InvalidStair("this is no place of the shape")
        if not is_integer(number):
            raise InvalidNumber(number)
        return cls(shape, {place: number})

    @classmethod
    def of(cls, *tables):
        """The stair of one to three tables, the blocks in their order."""
        if not all([is_square(table) for table in tables]):
            raise InvalidStair("a stair is made of tables with ones from corner to corner and zeros beneath")
        shape = tuple([len(table) for table in tables])
        if not is_shape(shape):
            raise InvalidStair("the sizes of the tables are no shape")
        return cls(shape, {(b, i, j): tables[b][i][j] for b, i, j in places(shape)})

    @classmethod
    def read(cls, text):
        """The stair whose `str` the text is."""
        blocks = blocks_of(text) if isinstance(text, str) else []
        shape = tuple([len(rows) + 1 for rows in blocks])
        if not is_shape(shape) or not all([are_rows(rows) for rows in blocks]):
            raise ParseError(0)
        return cls(shape, entries_of(shape, blocks))

    @property
    def shape(self):
        """The shape."""
        return self._shape

    @property
    def entries(self):
        """The dict of all entries that are not 0, its keys ascending."""
        found = dict(zip(places(self._shape), self._numbers))
        return {place: found[place] for place in sorted(found) if found[place]}

    @property
    def numbers(self):
        """The tuple of all entries, in the order of the places."""
        return self._numbers

    @property
    def tables(self):
        """The tuple of the tables of the blocks."""
        found = dict(zip(places(self._shape), self._numbers))
        return tuple([table_of(found, block, size) for block, size in enumerate(self._shape)])

    @property
    def lead(self):
        """The first place at which the entry is not 0, or None."""
        at = lead_at(self._numbers)
        return None if at is None else places(self._shape)[at]

    def __mul__(self, other):
        if not isinstance(other, Stair):
            return NotImplemented
        check_stair(self._shape, other)
        return stair_with(self._shape, self._plan, times(self._plan, self._numbers, other._numbers))

    def __invert__(self):
        return stair_with(self._shape, self._plan, undone(self._plan, self._numbers))

    def power(self, number):
        """As many times the stair; below 0, what undoes it."""
        if not is_integer(number):
            raise InvalidNumber(number)
        return stair_with(self._shape, self._plan, raised(self._plan, self._numbers, number))

    def bracket(self, other):
        """The bracket of both: self * other * ~self * ~other."""
        check_stair(self._shape, other)
        return stair_with(self._shape, self._plan, bracket(self._plan, self._numbers, other._numbers))

    def led(self, other):
        """The stair to which the other one leads it: other * self * ~other."""
        check_stair(self._shape, other)
        return stair_with(self._shape, self._plan, led(self._plan, self._numbers, other._numbers))

    def block(self, index):
        """The stair with this block alone."""
        if not is_index(index, len(self._shape)):
            raise InvalidNumber(index)
        numbers = [number for place, number in zip(places(self._shape), self._numbers) if place[0] == index]
        shape = (self._shape[index],)
        return stair_with(shape, plan_of(shape), tuple(numbers))

    def beside(self, other):
        """The stair with the blocks of both."""
        if not isinstance(other, Stair):
            raise InvalidStair("only a stair stands beside a stair")
        shape = self._shape + other._shape
        if not is_shape(shape):
            raise TooMany(MAX_BOXES)
        found = dict(zip(places(self._shape), self._numbers))
        for (block, row, column), number in zip(places(other._shape), other._numbers):
            found[len(self._shape) + block, row, column] = number
        return stair_with(shape, plan_of(shape), tuple([found[place] for place in places(shape)]))

    def __eq__(self, other):
        return isinstance(other, Stair) and self._shape == other._shape and self._numbers == other._numbers

    def __bool__(self):
        return any(self._numbers)

    def __len__(self):
        return len(self._numbers)

    def __str__(self):
        return "; ".join([text_of(table) for table in self.tables])


def stair_with(shape, plan, numbers):
    """The stair of a shape, whose plan is passed along, with these entries of any length, in order."""
    # Nothing that is passed needs a check here: the least stair is made, and gets the rest.
    made = Stair(_LEAST_SHAPE, {})
    made._shape = shape
    made._plan = plan
    made._numbers = numbers
    return made


def is_stair(shape, value):
    """Whether the value is a stair of the shape."""
    return isinstance(value, Stair) and value._shape == shape


def check_stair(shape, value):
    """InvalidStair unless the value is a stair of the shape."""
    if not is_stair(shape, value):
        raise InvalidStair("this is no stair of the shape")


def are_stairs(shape, value, most):
    """Whether the value is a tuple of at most so many stairs of the shape."""
    if not isinstance(value, tuple) or len(value) > most:
        return False
    return all([is_stair(shape, one) for one in value])


def are_entries(shape, value):
    """Whether the value is a dict from places of the shape to integers."""
    if not isinstance(value, dict):
        return False
    return all([is_place(shape, place) and is_integer(number) for place, number in value.items()])


def is_square(value):
    """Whether the value is a table of a stair, of any size."""
    if not isinstance(value, tuple):
        return False
    return all([is_square_row(row, at, len(value)) for at, row in enumerate(value)])


def is_square_row(value, at, size):
    """Whether the value is the row of a table with this index."""
    if not isinstance(value, tuple) or len(value) != size:
        return False
    if not all([is_integer(number) for number in value]):
        return False
    return value[at] == 1 and not any(value[:at])


def blocks_of(text):
    """The words of a text: for each block a list of rows, which are lists of words."""
    return [[row.split(" ") for row in block.split("/")] for block in text.split("; ")]


def entries_of(shape, blocks):
    """The entries of the words of a text."""
    return {(b, i, j): read_integer(blocks[b][i][j - i - 1]) for b, i, j in places(shape)}


def read_stair(shape, text):
    """The stair of a shape whose `str` the text is, or None."""
    blocks = blocks_of(text)
    if tuple([len(rows) + 1 for rows in blocks]) != shape or not all([are_rows(rows) for rows in blocks]):
        return None
    return Stair(shape, entries_of(shape, blocks))


def are_rows(rows):
    """Whether lists of words are those of a block: one word less in each next row, all of them integers."""
    if [len(words) for words in rows] != list(range(len(rows), 0, -1)):
        return False
    return None not in [read_integer(word) for words in rows for word in words]


def table_of(entries, block, size):
    """The whole table of a block."""
    return tuple([tuple([table_entry(entries, block, i, j) for j in range(size)]) for i in range(size)])


def table_entry(entries, block, row, column):
    """An entry of a whole table."""
    if row < column:
        return entries[block, row, column]
    return 1 if row == column else 0


def text_of(table):
    """The text of a block: its entries above the ones."""
    return "/".join([" ".join([str(number) for number in row[at + 1:]]) for at, row in enumerate(table[:-1])])
