"""Maps from a lot to the stairs of a shape."""

from stairlots.base.shapes import MAX_BOXES, is_shape
from stairlots.errors import InvalidLot, InvalidMap, InvalidStair, Refused, TooMany
from stairlots.lots.chains import divided, grown, least_rows
from stairlots.lots.derivations import MAX_STEPS, are_steps, needed_steps, worth_of
from stairlots.lots.kernels import narrowed, pairs_of, parted
from stairlots.lots.lots import Lot, check_lot, lot_with, plan_for, rows_of
from stairlots.stair.stairs import Stair, stair_with
from stairlots.stair.tables import beside, ones, plan_of, undone


def is_map(lot, images):
    """Whether the images have a map."""
    check_images(lot, images)
    return clash_at(lot, graph_of(lot, images)[0]) is None


def map_paper(lot, images):
    """Any paper on it: the stairs to which the chain members are led, or steps that tell that there is no map."""
    check_images(lot, images)
    chain, names, steps = graph_of(lot, images)
    at = clash_at(lot, chain)
    if at is None:
        return ("map", images_of_chain(lot, images, chain))
    found = needed_steps(steps[:names[at] + 1])
    if len(found) > MAX_STEPS:
        raise TooMany(MAX_STEPS)
    return ("clash", found)


def is_map_paper(lot, images, value):
    """Whether the value is a map paper."""
    check_images(lot, images)
    if not isinstance(value, tuple) or len(value) != 2:
        return False
    kind, told = value
    if kind == "map":
        chain = graph_of(lot, images)[0]
        return clash_at(lot, chain) is None and told == images_of_chain(lot, images, chain)
    if kind != "clash" or not are_steps(len(images), told):
        return False
    made = worth_of(plan_of_graph(lot, images), both_of_makers(lot, images), told)
    many = len(plan_for(lot))
    return not any(made[:many]) and any(made[many:])


class LotMap:
    """The map of images for the makers of a lot. It never changes."""

    def __init__(self, lot, images):
        check_images(lot, images)
        rows = graph_of(lot, images)[0]
        if clash_at(lot, rows) is not None:
            raise Refused(("clash",))
        self._lot = lot
        self._images = images
        self._target = target_of(lot, images)
        self._plan = plan_of(self._target)
        self._rows = rows
        inner, outer = kernel_and_image(plan_for(lot), self._plan, self._rows)
        self._kernel = lot_with(lot.shape, plan_for(lot), inner)
        self._image = lot_with(self._target, self._plan, outer)

    @property
    def lot(self):
        """The lot, as it was passed."""
        return self._lot

    @property
    def images(self):
        """The images, as they were passed."""
        return self._images

    @property
    def target(self):
        """The shape of the images."""
        return self._target

    @property
    def kernel(self):
        """The lot of all members that are led to one."""
        return self._kernel

    @property
    def image(self):
        """The lot of all stairs to which members are led."""
        return self._image

    def graph(self):
        """The lot of all members with the stairs to which they are led beside them."""
        shape = self._lot.shape + self._target
        if not is_shape(shape):
            raise TooMany(MAX_BOXES)
        plan = plan_of(shape)
        makers = [one.beside(led_to(self, one)).numbers for one in self._lot.chain]
        return lot_with(shape, plan, grown(plan, makers)[0])

    def __call__(self, stair):
        if stair not in self._lot:
            raise InvalidStair("this is no member of the lot")
        return led_to(self, stair)

    def forth(self, part):
        """The lot of all stairs to which the members of a lot within the lot are led."""
        if not isinstance(part, Lot) or part.shape != self._lot.shape or not part.is_within(self._lot):
            raise InvalidLot("this is no lot within the lot of the map")
        makers = [led_to(self, one).numbers for one in part.chain]
        return lot_with(self._target, self._plan, grown(self._plan, makers)[0])

    def back(self, part):
        """The lot of all members that are led into a lot."""
        if not isinstance(part, Lot) or part.shape != self._target:
            raise InvalidLot("this is no lot of the shape of the images")
        plan = plan_for(self._lot)
        many, width = len(plan), len(self._plan)
        chain = pairs_of(beside(plan, self._plan), self._rows, self._plan, rows_of(part))
        left = narrowed(beside(beside(plan, self._plan), self._plan), chain, many, many + width, width)
        return lot_with(self._lot.shape, plan, [None if row is None else row[:many] for row in left[:many]])

    def behind(self, first):
        """The map that leads a stair to where this one leads that to which the first one leads it."""
        if not isinstance(first, LotMap) or first.target != self._lot.shape or not first.image.is_within(self._lot):
            raise InvalidMap("this is no map into the lot of the map")
        return LotMap(first.lot, tuple([led_to(self, one) for one in first.images]))

    def __eq__(self, other):
        return isinstance(other, LotMap) and key_of(self) == key_of(other)

    def __str__(self):
        return f"map of {self._lot} to {self._target}"


def key_of(lot_map):
    """What two maps share if they are equal: the chain of the lot, with what each of its members is led to."""
    return lot_map._lot.shape, lot_map._target, lot_map._rows


def pairs_along(lot_map):
    """The chain members of the lot, and the stairs to which they are led."""
    return lot_map._lot.chain, images_of_chain(lot_map._lot, lot_map._images, lot_map._rows)


def check_images(lot, images):
    """The errors of a lot and images for it."""
    check_lot(lot)
    if not isinstance(images, tuple) or len(images) != len(lot.makers):
        raise InvalidMap("there is one image for each maker")
    if not all([isinstance(one, Stair) for one in images]):
        raise InvalidMap("images are stairs")
    if not all([one.shape == images[0].shape for one in images]):
        raise InvalidMap("images have one shape")


def target_of(lot, images):
    """The shape of the images."""
    return images[0].shape if images else lot.shape


def plan_of_graph(lot, images):
    """The plan of stairs of the lot's shape with stairs of the target beside them."""
    return beside(plan_for(lot), plan_of(target_of(lot, images)))


def both_of_makers(lot, images):
    """The entries of the makers with those of their images behind them."""
    return [maker.numbers + image.numbers for maker, image in zip(lot.makers, images)]


def graph_of(lot, images):
    """The chain of what the makers make with their images beside them, its names, and steps (see chains).

    It is broken off as soon as one has another stair than one beside it.
    """
    return grown(plan_of_graph(lot, images), both_of_makers(lot, images), (), len(plan_for(lot)))


def clash_at(lot, chain):
    """The index at which a chain member leads that has one ahead and another stair than one beside it, or None."""
    for at in range(len(plan_for(lot)), len(chain)):
        if chain[at] is not None:
            return at
    return None


def images_of_chain(lot, images, chain):
    """The stairs to which the chain members are led."""
    target = target_of(lot, images)
    plan = plan_of(target)
    many = len(plan_for(lot))
    return tuple([stair_with(target, plan, row[many:]) for row in chain[:many] if row is not None])


def kernel_and_image(plan, target_plan, rows):
    """The chains of the members that are led to one, and of the stairs to which members are led.

    Place by place of the target those members are kept that are led to stairs with 0 there.
    """
    whole = beside(plan, target_plan)
    many = len(plan)
    outer = []
    for at in range(many, len(whole)):
        values = [0 if row is None else row[at] for row in rows]
        rows, holder, least = parted(whole, rows, values)
        outer.append(holder[many:] if least else None)
    return [None if row is None else row[:many] for row in rows[:many]], least_rows(target_plan, outer)


def led_to(lot_map, stair):
    """The stair to which a member is led: it undoes what is left beside the member if this is divided by the chain."""
    plan = plan_for(lot_map._lot)
    left = divided(beside(plan, lot_map._plan), lot_map._rows, stair.numbers + ones(lot_map._plan))[0]
    return stair_with(lot_map._target, lot_map._plan, undone(lot_map._plan, left[len(plan):]))
