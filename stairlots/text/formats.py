"""Texts of lots and of workshops."""

from stairlots.base.shapes import is_shape
from stairlots.base.wholes import read_integer
from stairlots.errors import InvalidOperation, ParseError
from stairlots.lots.lots import check_lot, lot_of_chain
from stairlots.shop.workshop import MAX_LOTS, MAX_WISHES, Workshop, is_name, next_number, workshop_of
from stairlots.stair.stairs import read_stair
from stairlots.way.likeness import MAX_TUPLE


def write_lot(lot):
    """The text of a lot."""
    check_lot(lot)
    return "\n".join([f"lot {sizes_text(lot.shape)}"] + [str(stair) for stair in lot.chain])


def read_lot(text):
    """The lot with a text."""
    lines = lines_of(text)
    shape = read_sizes("lot ", lines[0])
    if shape is None:
        raise ParseError(0)
    stairs = []
    for at in range(1, len(lines)):
        stair = read_stair(shape, lines[at])
        if stair is None:
            raise ParseError(at)
        stairs.append(stair)
    lot = lot_of_chain(shape, stairs)
    if lot is None:
        raise ParseError(len(lines))
    return lot


def write_shop(shop):
    """The text of a workshop."""
    if not isinstance(shop, Workshop):
        raise InvalidOperation("this is no workshop")
    lines = [f"shop {sizes_text(shop.shape)}"]
    lines.extend([lot_text(name, lot) for name, lot in shop.lots.items()])
    lines.extend([wish_text(number, wish) for number, wish in shop.wishes.items()])
    return "\n".join(lines + [f"next {next_number(shop)}"])


def read_shop(text):
    """The workshop with a text."""
    lines = lines_of(text)
    shape = read_sizes("shop ", lines[0])
    if shape is None:
        raise ParseError(0)
    state = ({}, {}, None)
    for at in range(1, len(lines)):
        state = state_behind(shape, state, lines[at])
        if state is None:
            raise ParseError(at)
    lots, wishes, coming = state
    if coming is None:
        raise ParseError(len(lines))
    return workshop_of(shape, lots, wishes, coming)


def state_behind(shape, state, line):
    """What the lines of a workshop have told behind a line, from what they have told ahead of it.

    It is the lots, the wishes, and the number of the last line if it was there. None if the line has not its form, or
    cannot stand there.
    """
    lots, wishes, coming = state
    word, _, told = line.partition(" ")
    if coming is not None:
        return None
    if word == "put":
        name, lot = read_put(shape, told)
        if lot is None or wishes or len(lots) == MAX_LOTS or not is_behind(name, lots):
            return None
        return {**lots, name: lot}, wishes, None
    if word == "wish":
        number, wish = read_wish(shape, lots, told)
        if wish is None or len(wishes) == MAX_WISHES or not is_behind(number, wishes):
            return None
        return lots, {**wishes, number: wish}, None
    number = read_number(told)
    if word != "next" or number is None or not is_behind(number, wishes):
        return None
    return lots, wishes, number


def is_behind(key, keys):
    """Whether a name or a number is greater than all of these."""
    return all([key > other for other in keys])


def read_put(shape, told):
    """The name and the lot that a line tells behind `put`; None in the place of the lot if there is none."""
    name, _, text = told.partition(":")
    stairs = read_stairs(shape, text[1:]) if text else []
    lot = None if stairs is None else lot_of_chain(shape, stairs)
    if lot is None or not is_name(name) or lot_text(name, lot) != f"put {told}":
        return name, None
    return name, lot


def read_wish(shape, lots, told):
    """The number and the wish that a line tells behind `wish`; None in the place of the wish if there is none."""
    head, _, text = told.partition(": ")
    word, _, name = head.partition(" ")
    first, _, second = text.partition(" > ")
    number, stairs, others = read_number(word), read_stairs(shape, first), read_stairs(shape, second)
    if number is None or name not in lots or stairs is None or others is None:
        return number, None
    wish = (name, tuple(stairs), tuple(others))
    if len(stairs) != len(others) or len(stairs) > MAX_TUPLE or wish_text(number, wish) != f"wish {told}":
        return number, None
    return number, wish


def lines_of(text):
    """The lines of a text."""
    if not isinstance(text, str):
        raise ParseError(None)
    return text.split("\n")


def sizes_text(shape):
    """The sizes of a shape."""
    return ",".join([str(size) for size in shape])


def read_sizes(word, line):
    """The shape whose sizes stand behind a word, or None if the line is another one."""
    if not line.startswith(word):
        return None
    shape = tuple([read_integer(text) for text in line[len(word):].split(",")])
    return shape if is_shape(shape) else None


def stairs_text(stairs):
    """The stairs in one line."""
    return ", ".join([str(stair) for stair in stairs])


def read_stairs(shape, text):
    """The list of the stairs of a shape, at least one, in one line; None if the text is another one."""
    found = [read_stair(shape, part) for part in text.split(", ")]
    return None if None in found else found


def read_number(text):
    """The number of a wish, or None if the text is another one."""
    number = read_integer(text)
    return None if number is None or number < 0 else number


def lot_text(name, lot):
    """The line of a lot under a name."""
    return f"put {name}: {stairs_text(lot.chain)}" if lot.chain else f"put {name}:"


def wish_text(number, wish):
    """The line of a wish."""
    name, stairs, others = wish
    return f"wish {number} {name}: {stairs_text(stairs)} > {stairs_text(others)}"
