"""Boxes: a wish, two bounds and two weights each, and the widths of rows of boxes."""

from boxrows.errors import InvalidBox, InvalidBoxes, InvalidLevel
from boxrows.ratios import as_fraction, is_int, is_rational, lowest

WIDEST = 10 ** 30
HEAVIEST = 10 ** 6
MOST_BOXES = 40


def limited(value, least, most):
    """A number raised to the least width, or lowered to the greatest one, if there is one."""
    if value < least:
        return least
    if most is not None and value > most:
        return most
    return value


def in_bounds(value, top):
    """Whether a value is an integer from 0 to top."""
    return is_int(value) and 0 <= value <= top


def are_box_numbers(wish, least, most, grow, shrink):
    """Whether five values are the numbers of a box."""
    widths = [wish, least] if most is None else [wish, least, most]
    return (
        all([in_bounds(width, WIDEST) for width in widths])
        and all([in_bounds(weight, HEAVIEST) for weight in (grow, shrink)])
        and (most is None or least <= most)
    )


class Box:
    """A box; called with a level, it gives its size there."""

    def __init__(self, wish, least=0, most=None, grow=0, shrink=0):
        if not are_box_numbers(wish, least, most, grow, shrink):
            raise InvalidBox("a wish, bounds and weights in their limits are required")
        self._wish = wish
        self._least = least
        self._most = most
        self._grow = grow
        self._shrink = shrink

    @property
    def wish(self):
        """The width that the box wishes; it may lie outside of the bounds."""
        return self._wish

    @property
    def least(self):
        """The least width."""
        return self._least

    @property
    def most(self):
        """The greatest width, or None."""
        return self._most

    @property
    def grow(self):
        """The grow weight."""
        return self._grow

    @property
    def shrink(self):
        """The shrink weight."""
        return self._shrink

    @property
    def own(self):
        """The limited wish."""
        return limited(self._wish, self._least, self._most)

    def __call__(self, level):
        """The size at a level, a fraction."""
        if not is_rational(level):
            raise InvalidLevel("an integer or a fraction is required")
        return size_at(self, as_fraction(level))

    def __eq__(self, other):
        return (
            isinstance(other, Box)
            and self._wish == other._wish
            and self._least == other._least
            and self._most == other._most
            and self._grow == other._grow
            and self._shrink == other._shrink
        )


def wide_box(wish, least, most, grow, shrink):
    """A box whose numbers may be greater than those that Box takes."""
    box = Box(0)
    box._wish = wish
    box._least = least
    box._most = most
    box._grow = grow
    box._shrink = shrink
    return box


def box_times(box, many):
    """The box that takes, at each level, as much as so many boxes that are equal to this one."""
    most = None if box.most is None else box.most * many
    return wide_box(box.wish * many, box.least * many, most, box.grow * many, box.shrink * many)


def weight_at(box, level):
    """The weight that counts at a level, a fraction."""
    return box.grow if level[0] >= 0 else box.shrink


def scaled_size(box, level):
    """The size at a level p / q, times q: an integer."""
    p, q = level
    most = None if box.most is None else box.most * q
    return limited(box.wish * q + p * weight_at(box, level), box.least * q, most)


def size_at(box, level):
    """The size at a level, both fractions."""
    return lowest(scaled_size(box, level), level[1])


def low_size(box):
    """The size at levels that are low enough."""
    return box.least if box.shrink > 0 else box.own


def high_size(box):
    """The size at levels that are high enough; None if it grows without end."""
    return box.most if box.grow > 0 else box.own


def check_boxes(boxes):
    """Raise InvalidBoxes unless the value is a list of 1 to 40 boxes."""
    if not isinstance(boxes, list) or not 1 <= len(boxes) <= MOST_BOXES:
        raise InvalidBoxes("a list of 1 to 40 boxes is required")
    if not all([isinstance(box, Box) for box in boxes]):
        raise InvalidBoxes("each item must be a box")


def least_width(boxes):
    """The sum of the sizes at levels that are low enough."""
    check_boxes(boxes)
    return sum([low_size(box) for box in boxes])


def own_width(boxes):
    """The sum of the sizes at the level 0."""
    check_boxes(boxes)
    return sum([box.own for box in boxes])


def greatest_width(boxes):
    """The sum of the sizes at levels that are high enough; None if it grows without end."""
    check_boxes(boxes)
    sizes = [high_size(box) for box in boxes]
    if any([size is None for size in sizes]):
        return None
    return sum(sizes)
