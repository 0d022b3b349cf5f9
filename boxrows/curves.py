"""Curves: sizes as functions of the width that do not fall and are linear piece by piece."""

from boxrows.boxes import check_boxes
from boxrows.errors import InvalidCurve, InvalidNumber
from boxrows.ratios import (
    ZERO,
    as_fraction,
    ascending,
    ceiling,
    floor,
    is_fraction,
    is_rational,
    lowest,
    minus,
    order,
    over,
    plus,
    times,
)
from boxrows.shares import check_index, check_width, row_bends, sum_at, sum_slope_above

MOST_POINTS = 200


class Curve:
    """A curve; called with a width, it gives its value there."""

    # _pieces are tuples (width, value, slope): from this width on, up to the next
    # one, the value rises with this slope. Neighbours have different slopes, so
    # equal curves have equal pieces.
    def __init__(self, points, slope):
        if not are_points(points) or not is_positive_or_zero(slope):
            raise InvalidCurve("1 to 200 points that ascend, and a slope, are required")
        self._pieces = joined(pieces_between(points, slope))

    @property
    def points(self):
        """The points at which the slope changes, behind the first one."""
        return [(width, value) for width, value, _ in self._pieces]

    @property
    def slope(self):
        """The slope behind the last point."""
        return self._pieces[-1][2]

    def __call__(self, width):
        """The value at a width, a fraction."""
        check_width(width)
        return values_at(self._pieces, [as_fraction(width)])[0]

    def __eq__(self, other):
        return isinstance(other, Curve) and self._pieces == other._pieces

    def __add__(self, other):
        """The sum of both curves."""
        check_curve(other)
        return curve_of(summed(self._pieces, other._pieces))

    def after(self, two):
        """The curve that leads from a width to the value at the value of another curve."""
        check_curve(two)
        return curve_of(composed(self._pieces, two._pieces))

    def widths_of(self, value):
        """The least and the greatest width with a value."""
        if not is_rational(value) or as_fraction(value)[0] < 0:
            raise InvalidNumber("an integer or a fraction, not negative, is required")
        return widths_with_value(self._pieces, as_fraction(value))

    def differs_from(self, two):
        """The least whole width at which two curves have different values, or None."""
        check_curve(two)
        return first_difference_of(self._pieces, two._pieces)

    def falls_below(self, two):
        """The least whole width at which this curve is less than another one, or None."""
        check_curve(two)
        return first_fall(self._pieces, two._pieces)


def check_curve(value):
    """Raise InvalidCurve unless the value is a curve."""
    if not isinstance(value, Curve):
        raise InvalidCurve("a curve is required")


def is_positive_or_zero(value):
    """Whether a value is a fraction that is not negative."""
    return is_fraction(value) and value[0] >= 0


def is_point(value):
    """Whether a value is a tuple of two fractions that are not negative."""
    return isinstance(value, tuple) and len(value) == 2 and all([is_positive_or_zero(item) for item in value])


def are_points(points):
    """Whether a value is a list of points of a curve."""
    if not isinstance(points, list) or not 1 <= len(points) <= MOST_POINTS:
        return False
    if not all([is_point(point) for point in points]) or points[0][0] != ZERO:
        return False
    steps = [(points[at], points[at + 1]) for at in range(len(points) - 1)]
    return all([order(one[0], two[0]) < 0 and order(one[1], two[1]) <= 0 for one, two in steps])


def curve_of(pieces):
    """The curve with some pieces; of these, there may be any number."""
    curve = Curve([(ZERO, ZERO)], ZERO)
    curve._pieces = joined(pieces)
    return curve


def pieces_of(curve):
    """The pieces of a curve: tuples (width, value, slope)."""
    return curve._pieces


def pieces_between(points, slope):
    """The pieces between points, and the one behind the last of them."""
    found = []
    for at in range(len(points) - 1):
        (width, value), (end, top) = points[at], points[at + 1]
        found.append((width, value, over(minus(top, value), minus(end, width))))
    return found + [(points[-1][0], points[-1][1], slope)]


def joined(pieces):
    """Pieces without those that end where they begin, or go on with the slope before."""
    found = []
    for at in range(len(pieces)):
        is_empty = at + 1 < len(pieces) and pieces[at + 1][0] == pieces[at][0]
        if not is_empty and (not found or found[-1][2] != pieces[at][2]):
            found.append(pieces[at])
    return found


def last_up_to(starts, value):
    """The index of the last of some fractions, none below the one before, that is not above a value."""
    low, high = 0, len(starts)
    while high - low > 1:
        middle = (low + high) // 2
        if order(starts[middle], value) <= 0:
            low = middle
        else:
            high = middle
    return low


def pieces_at(pieces, widths):
    """For each of some widths the piece that holds from there on."""
    starts = [piece[0] for piece in pieces]
    return [pieces[last_up_to(starts, width)] for width in widths]


def value_on(piece, width):
    """The value that a piece has, or would have if it went on, at a width."""
    return plus(piece[1], times(piece[2], minus(width, piece[0])))


def values_at(pieces, widths):
    """The values at some widths."""
    return [value_on(piece, width) for piece, width in zip(pieces_at(pieces, widths), widths)]


def common_widths(one, two):
    """The ascending widths at which a piece of one of two curves begins."""
    return ascending([piece[0] for piece in one] + [piece[0] for piece in two])


def summed(one, two):
    """The pieces of the sum of two curves."""
    widths = common_widths(one, two)
    return [
        (width, plus(value_on(left, width), value_on(right, width)), plus(left[2], right[2]))
        for width, left, right in zip(widths, pieces_at(one, widths), pieces_at(two, widths))
    ]


def widths_inside(pieces, values):
    """The widths, behind the begin of a piece that rises, at which a curve reaches some values."""
    starts = [piece[1] for piece in pieces]
    found = []
    for value in values:
        width, start, slope = pieces[last_up_to(starts, value)]
        if slope != ZERO and order(start, value) < 0:
            found.append(plus(width, over(minus(value, start), slope)))
    return found


def composed(one, two):
    """The pieces of the curve that leads from a width to one(two(width))."""
    widths = ascending([piece[0] for piece in two] + widths_inside(two, [piece[0] for piece in one]))
    lower = pieces_at(two, widths)
    middle = [value_on(piece, width) for piece, width in zip(lower, widths)]
    upper = pieces_at(one, middle)
    return [
        (width, value_on(high, between), times(high[2], low[2]))
        for width, low, between, high in zip(widths, lower, middle, upper)
    ]


def widths_with_value(pieces, value):
    """What widths_of returns, for a fraction."""
    at = last_up_to([piece[1] for piece in pieces], value)
    width, start, slope = pieces[at]
    if start != value:
        found = widths_inside(pieces, [value])
        return (found[0], found[0]) if found else None
    is_flat_before = at > 0 and pieces[at - 1][1] == value
    least = pieces[at - 1][0] if is_flat_before else width
    return (least, None if slope == ZERO else width)


def first_difference_of(one, two):
    """What differs_from returns, for the pieces of two curves."""
    # Between two of these widths the difference is linear: if it is 0 at the first
    # two whole widths there, it is 0 at all of them.
    wholes = sorted({ceiling(width) + more for width in common_widths(one, two) for more in (0, 1)})
    widths = [(whole, 1) for whole in wholes]
    for whole, left, right in zip(wholes, values_at(one, widths), values_at(two, widths)):
        if left != right:
            return whole
    return None


def fall_on(width, left, right):
    """The least whole width from this one on at which a piece is below another one, or None."""
    whole = ceiling(width)
    lead = minus(value_on(left, (whole, 1)), value_on(right, (whole, 1)))
    if lead[0] < 0:
        return whole
    loss = minus(right[2], left[2])
    return whole + floor(over(lead, loss)) + 1 if loss[0] > 0 else None


def first_fall(one, two):
    """What falls_below returns, for the pieces of two curves."""
    widths = common_widths(one, two)
    lefts, rights = pieces_at(one, widths), pieces_at(two, widths)
    for at in range(len(widths)):
        whole = fall_on(widths[at], lefts[at], rights[at])
        is_last = at + 1 == len(widths)
        if whole is not None and (is_last or order((whole, 1), widths[at + 1]) <= 0):
            return whole
    return None


def first_above(curve, number):
    """The least whole width at which a curve is above an integer, or None."""
    return first_fall([(ZERO, (number, 1), ZERO)], pieces_of(curve))


def row_stops(boxes):
    """For each bend of a row its level, the width there, and how fast the width grows behind."""
    return [(level, sum_at(boxes, level), sum_slope_above(boxes, level)) for level in row_bends(boxes)]


def curve_along(stops, chosen):
    """The curve of the sum of the sizes of some boxes of the row with these bends."""
    pieces = [(ZERO, sum_at(chosen, stops[0][0]), ZERO)]
    for level, width, slope in stops:
        # Where the row does not grow, the piece is empty, or the last one.
        part = ZERO if slope == 0 else lowest(sum_slope_above(chosen, level), slope)
        pieces.append((width, sum_at(chosen, level), part))
    return curve_of(pieces)


def box_curve(boxes, index):
    """The curve of the size of a box in its row."""
    check_boxes(boxes)
    check_index(index, len(boxes))
    return curve_along(row_stops(boxes), [boxes[index]])
