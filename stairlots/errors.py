"""The errors of the package."""


class StairlotError(ValueError):
    """What the errors of this package that tell of invalid values are derived from."""


class InvalidShape(StairlotError):
    """A value is no shape."""


class InvalidStair(StairlotError):
    """A value is no stair, or none of the shape that is wanted."""


class InvalidLot(StairlotError):
    """A value is no lot, or none of the shape that is wanted."""


class InvalidMap(StairlotError):
    """Stairs are no images, or a value is no map as it is wanted."""


class InvalidPolynomial(StairlotError):
    """A value is no polynomial, or none as it is wanted."""


class InvalidSpan(StairlotError):
    """A value is no row, or rows are not those of a span."""


class InvalidOperation(StairlotError):
    """A value does not fit what is to be done with it."""


class ParseError(StairlotError):
    """A text has not the form that is read; `spot` tells where."""

    def __init__(self, spot):
        self.spot = spot


class InvalidNumber(IndexError):
    """A value is no integer, or is out of its bounds; `given` is the value."""

    def __init__(self, given):
        self.given = given


class UnknownName(KeyError):
    """Nothing has the name `wanted`."""

    def __init__(self, wanted):
        self.wanted = wanted


class TooMany(OverflowError):
    """More would be needed than `most`."""

    def __init__(self, most):
        self.most = most


class Refused(ArithmeticError):
    """Something cannot be; `reason` is a tuple that begins with a word."""

    def __init__(self, reason):
        self.reason = reason


class NothingToUndo(LookupError):
    """There are fewer than `many` steps to take back."""

    def __init__(self, many):
        self.many = many
