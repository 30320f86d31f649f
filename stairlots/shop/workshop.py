"""A workshop: lots under names, and wishes, tuples of stairs that a lot never leads to one another."""

from stairlots.base.shapes import check_shape
from stairlots.base.wholes import is_integer, is_whole
from stairlots.errors import InvalidNumber, InvalidOperation, NothingToUndo, Refused, TooMany, UnknownName
from stairlots.lots.lots import Lot, check_lot_of
from stairlots.stair.stairs import check_stair
from stairlots.way.likeness import alike_paper, check_both, is_alike_paper

MAX_LOTS = 8
MAX_WISHES = 20

_LETTERS = "abcdefghijklmnopqrstuvwxyz"
_MOST_LETTERS = 8


class Workshop:
    """Lots of a shape under names, with wishes. It changes by steps, which can be taken back."""

    def __init__(self, shape):
        check_shape(shape)
        self._shape = shape
        # What these four hold is never changed itself: a step puts others in their places, and keeps what was there.
        self._lots = {}
        self._wishes = {}
        self._bars = {}
        self._coming = 0
        self._past = []

    @property
    def shape(self):
        """The shape."""
        return self._shape

    @property
    def lots(self):
        """The dict from the names, ascending, to the lots."""
        return {name: self._lots[name] for name in sorted(self._lots)}

    @property
    def wishes(self):
        """The dict from the numbers, ascending, to the wishes."""
        return {number: self._wishes[number] for number in sorted(self._wishes)}

    @property
    def bars(self):
        """The dict from the numbers of the wishes, ascending, to their bars."""
        return {number: self._bars[number] for number in sorted(self._bars)}

    @property
    def steps(self):
        """How many steps can be taken back."""
        return len(self._past)

    def put(self, name, lot):
        """Gives the name this lot; whether this is a step."""
        if not is_name(name):
            raise InvalidOperation("a name has one to eight letters from a to z")
        check_lot_of(self._shape, lot)
        if name not in self._lots and len(self._lots) == MAX_LOTS:
            raise TooMany(MAX_LOTS)
        return self._change_lot(name, lot)

    def add(self, name, stair):
        """Gives the lot with this name a further maker; whether this is a step."""
        self._check_known(name)
        check_stair(self._shape, stair)
        return self._change_lot(name, self._lots[name] | Lot(self._shape, (stair,)))

    def take_out(self, name):
        """Takes the lot with this name out; whether this is a step, as it always is."""
        self._check_known(name)
        for number, wish in self.wishes.items():
            if wish[0] == name:
                raise Refused(("wished", number))
        self._remember()
        self._lots = {other: lot for other, lot in self._lots.items() if other != name}
        return True

    def wish(self, name, stairs, others):
        """Makes a further wish; its number."""
        self._check_known(name)
        check_both(self._lots[name], stairs, others)
        if len(self._wishes) == MAX_WISHES:
            raise TooMany(MAX_WISHES)
        kind, told = alike_paper(self._lots[name], stairs, others)
        if kind == "led":
            raise Refused(("led", told))
        self._remember()
        number = self._coming
        self._wishes = {**self._wishes, number: (name, stairs, others)}
        self._bars = {**self._bars, number: told}
        self._coming = number + 1
        return number

    def release(self, number):
        """Takes a wish away; whether this is a step, as it always is."""
        if not is_whole(number) or number not in self._wishes:
            raise InvalidNumber(number)
        self._remember()
        self._wishes = {other: wish for other, wish in self._wishes.items() if other != number}
        self._bars = {other: bar for other, bar in self._bars.items() if other != number}
        return True

    def undo(self, *, many=1):
        """Takes the last steps back; how many are left."""
        if not is_integer(many) or many < 0:
            raise InvalidNumber(many)
        left = len(self._past) - many
        if left < 0:
            raise NothingToUndo(many)
        if many:
            self._lots, self._wishes, self._bars, self._coming = self._past[left]
            del self._past[left:]
        return left

    def twin(self):
        """An equal workshop with the same steps and bars that goes on by itself."""
        return workshop_with(self._shape, (self._lots, self._wishes, self._bars, self._coming), self._past)

    def __contains__(self, name):
        return isinstance(name, str) and name in self._lots

    def __eq__(self, other):
        return isinstance(other, Workshop) and key_of(self) == key_of(other)

    def __len__(self):
        return len(self._lots)

    def __str__(self):
        return f"workshop of {len(self._lots)} lots, {len(self._wishes)} wishes"

    def _check_known(self, name):
        """UnknownName unless a lot has the name."""
        if name not in self:
            raise UnknownName(name)

    def _remember(self):
        """Keeps what there is, so that the step that follows can be taken back."""
        self._past.append((self._lots, self._wishes, self._bars, self._coming))

    def _change_lot(self, name, lot):
        """Puts a lot in the place of that with this name, if it is another one; whether it is."""
        if name in self._lots and self._lots[name] == lot:
            return False
        bars = {number: bar_behind(number, wish, lot, self._bars[number])
                for number, wish in self.wishes.items() if wish[0] == name}
        self._remember()
        self._lots = {**self._lots, name: lot}
        self._bars = {**self._bars, **bars}
        return True


def is_name(value):
    """Whether the value is a name."""
    if not isinstance(value, str) or not 1 <= len(value) <= _MOST_LETTERS:
        return False
    return all([letter in _LETTERS for letter in value])


def bar_behind(number, wish, lot, bar):
    """A bar of a wish with this lot: the bar that there is, if there is one and it bars the wish still.

    Refused if the lot leads the wish.
    """
    _, stairs, others = wish
    if bar is not None and is_alike_paper(lot, stairs, others, ("barred", bar)):
        return bar
    kind, told = alike_paper(lot, stairs, others)
    if kind == "led":
        raise Refused(("led", number, told))
    return told


def key_of(shop):
    """What equal workshops share."""
    return shop._shape, shop._lots, shop._wishes, shop._coming


def workshop_with(shape, state, past):
    """A workshop of a shape with this state, in which these states can be gone back to."""
    made = Workshop(shape)
    made._lots, made._wishes, made._bars, made._coming = state
    made._past = list(past)
    return made


def workshop_of(shape, lots, wishes, coming):
    """A workshop without steps, with lots, wishes and the number that the next wish gets.

    Refused if a lot leads a wish of its name.
    """
    bars = {number: bar_behind(number, wishes[number], lots[wishes[number][0]], None) for number in wishes}
    return workshop_with(shape, (lots, wishes, bars, coming), [])


def next_number(shop):
    """The number that the next wish gets."""
    return shop._coming
