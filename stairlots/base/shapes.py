"""Shapes and their places."""

from stairlots.base.wholes import is_between, is_index
from stairlots.errors import InvalidShape

MAX_BOXES = 8

_MOST_BLOCKS = 3
_LEAST_SIZE = 2
_MOST_SIZE = 6


def is_shape(value):
    """Whether the value is a shape: one to three sizes with a sum of at most MAX_BOXES."""
    if not isinstance(value, tuple) or not 1 <= len(value) <= _MOST_BLOCKS:
        return False
    if not all([is_between(size, _LEAST_SIZE, _MOST_SIZE) for size in value]):
        return False
    return sum(value) <= MAX_BOXES


def check_shape(shape):
    """InvalidShape unless the value is a shape."""
    if not is_shape(shape):
        raise InvalidShape("this is no shape")


def places(shape):
    """The tuple of all places of a shape: by distance, then by block, then by row."""
    check_shape(shape)
    found = []
    for distance in range(1, max(shape)):
        for block, size in enumerate(shape):
            for row in range(size - distance):
                found.append((block, row, row + distance))
    return tuple(found)


def is_place(shape, value):
    """Whether the value is a place of the shape."""
    check_shape(shape)
    if not isinstance(value, tuple) or len(value) != 3:
        return False
    block, row, column = value
    if not is_index(block, len(shape)):
        return False
    return is_index(column, shape[block]) and is_index(row, column)
