"""Shares: how the boxes of a row share a width, and at which levels and widths."""

from boxrows.boxes import check_boxes, greatest_width, least_width, scaled_size, size_at, weight_at
from boxrows.errors import InvalidIndex, InvalidNumber, InvalidShares, InvalidWidth
from boxrows.ratios import (
    as_fraction,
    ascending,
    ceiling,
    floor,
    is_fraction,
    is_int,
    is_rational,
    lowest,
    minus,
    order,
    plus,
)


def check_width(width):
    """Raise InvalidWidth unless the value is an integer or a fraction, not negative."""
    if not is_rational(width) or as_fraction(width)[0] < 0:
        raise InvalidWidth("an integer or a fraction, not negative, is required")


def check_whole(whole):
    """Raise InvalidWidth unless the value is an integer from 0 on."""
    if not is_int(whole) or whole < 0:
        raise InvalidWidth("an integer from 0 on is required")


def check_index(index, many):
    """Raise InvalidIndex unless the value is an integer from 0 on, less than many."""
    if not is_int(index) or not 0 <= index < many:
        raise InvalidIndex("an integer from 0 on, less than the number of things, is required")


def check_number(number):
    """Raise InvalidNumber unless the value is an integer from 0 on."""
    if not is_int(number) or number < 0:
        raise InvalidNumber("an integer from 0 on is required")


def check_shares(shares, many):
    """Raise InvalidShares unless the value is a list of so many fractions, none negative."""
    if not isinstance(shares, list) or len(shares) != many:
        raise InvalidShares("a list of as many fractions as boxes is required")
    if not all([is_fraction(size) and size[0] >= 0 for size in shares]):
        raise InvalidShares("each item must be a fraction that is not negative")


def bends(box):
    """The levels, other than 0, at which a box reaches or leaves one of its bounds."""
    bounds = [box.least] if box.most is None else [box.least, box.most]
    low = [lowest(bound - box.wish, box.shrink) for bound in bounds if bound < box.wish and box.shrink > 0]
    high = [lowest(bound - box.wish, box.grow) for bound in bounds if bound > box.wish and box.grow > 0]
    return low + high


def row_bends(boxes):
    """The ascending levels, 0 among them, between which all sizes are linear."""
    # Ahead of the first one all sizes are the low ones; behind the last one only
    # boxes without a greatest width still grow.
    return ascending([(0, 1)] + [level for box in boxes for level in bends(box)])


def sum_at(boxes, level):
    """The sum of the sizes at a level, both fractions."""
    return lowest(sum([scaled_size(box, level) for box in boxes]), level[1])


def slope_above(box, level):
    """How fast the size of a box grows just above a level."""
    p, q = level
    weight = weight_at(box, level)
    value = box.wish * q + p * weight
    moves = box.least * q <= value and (box.most is None or value < box.most * q)
    return weight if moves else 0


def sum_slope_above(boxes, level):
    """How fast the sum of the sizes grows just above a level."""
    return sum([slope_above(box, level) for box in boxes])


def level_above(boxes, level, width):
    """The level from this one on, up to the next bend, at which the sum is the width."""
    p, q = minus(width, sum_at(boxes, level))
    return plus(level, lowest(p, q * sum_slope_above(boxes, level)))


def last_bend(boxes, width, touching):
    """The last bend at which the sum is below the width, or, if touching, at most the width."""
    levels = row_bends(boxes)
    low, high = 0, len(levels)
    while high - low > 1:
        middle = (low + high) // 2
        sign = order(sum_at(boxes, levels[middle]), width)
        if sign < 0 or (touching and sign == 0):
            low = middle
        else:
            high = middle
    return levels[low]


def first_level(boxes, width):
    """The least level at which the sum is a width that is above the least width."""
    return level_above(boxes, last_bend(boxes, width, False), width)


def last_level(boxes, width):
    """The greatest level at which the sum is a width that is below the greatest width."""
    return level_above(boxes, last_bend(boxes, width, True), width)


def against_least(boxes, width):
    """An integer with the sign of the width less the least width."""
    return order(width, (least_width(boxes), 1))


def against_greatest(boxes, width):
    """An integer with the sign of the width less the greatest width; negative if there is none."""
    greatest = greatest_width(boxes)
    return -1 if greatest is None else order(width, (greatest, 1))


def sharing_level(boxes, width):
    """A level at which the boxes have the sizes that they have with this width."""
    if against_least(boxes, width) <= 0:
        return row_bends(boxes)[0]
    if against_greatest(boxes, width) >= 0:
        return row_bends(boxes)[-1]
    return first_level(boxes, width)


def levels_of(boxes, width):
    """What level_range returns, for a fraction."""
    below, above = against_least(boxes, width), against_greatest(boxes, width)
    if below < 0 or above > 0:
        return None
    return (
        None if below == 0 else first_level(boxes, width),
        None if above == 0 else last_level(boxes, width),
    )


def share(boxes, width):
    """The sizes that the boxes have when they share a width, fractions."""
    check_boxes(boxes)
    check_width(width)
    level = sharing_level(boxes, as_fraction(width))
    return [size_at(box, level) for box in boxes]


def spare(boxes, width):
    """The width less the sum of the sizes, a fraction."""
    check_boxes(boxes)
    check_width(width)
    whole = as_fraction(width)
    return minus(whole, sum_at(boxes, sharing_level(boxes, whole)))


def level_range(boxes, width):
    """The least and the greatest level at which the sum of the sizes is the width."""
    check_boxes(boxes)
    check_width(width)
    return levels_of(boxes, as_fraction(width))


def widths_with(boxes, index, number):
    """The least and the greatest whole width at which a box has a size."""
    check_boxes(boxes)
    check_index(index, len(boxes))
    check_number(number)
    levels = levels_of([boxes[index]], (number, 1))
    if levels is None:
        return None
    # A box that keeps its size at all lower levels keeps it below the least width
    # of the row, too, and at all higher levels above the greatest one.
    low, high = levels
    least = 0 if low is None else ceiling(sum_at(boxes, low))
    if high is None:
        return (least, None)
    greatest = floor(sum_at(boxes, high))
    return (least, greatest) if least <= greatest else None


def lies_below(one, two):
    """Whether a range of levels ends below the beginning of another one."""
    return one[1] is not None and two[0] is not None and order(one[1], two[0]) < 0


def are_apart(one, two):
    """Whether two ranges of levels, or None for no level, have no common level."""
    if one is None or two is None:
        return True
    return lies_below(one, two) or lies_below(two, one)


def clash(boxes, shares):
    """The first two boxes that have these sizes at no common level, or None."""
    check_boxes(boxes)
    check_shares(shares, len(boxes))
    # Ranges of which each two have a common level have one level in common,
    # so it is enough to compare two at a time.
    ranges = [levels_of([box], size) for box, size in zip(boxes, shares)]
    for i in range(len(ranges)):
        for j in range(i, len(ranges)):
            if are_apart(ranges[i], ranges[j]):
                return (i, j)
    return None
