"""Places: where the parts of a layout lie and how wide they are, at a width and at all widths."""

from boxrows.curves import Curve, curve_along, row_stops
from boxrows.layouts import check_layout, outermost_row, way_to
from boxrows.parts import boxes_of
from boxrows.ratios import ONE, ZERO, as_fraction, ascending, plus
from boxrows.shares import check_width, share, spare


def same_width():
    """The curve of the size of a layout: its value is the width."""
    return Curve([(ZERO, ZERO)], ONE)


def sum_of(sizes):
    """The sum of some fractions."""
    total = ZERO
    for size in sizes:
        total = plus(total, size)
    return total


def size_of(layout, name, width):
    """The size of a part at a width, a fraction."""
    check_layout(layout)
    way = way_to(layout, name)
    check_width(width)
    size = as_fraction(width)
    for row, index in way:
        size = share(boxes_of(row), size)[index]
    return size


def begin_of(layout, name, width):
    """Where a part begins at a width, from the left edge of the layout on, a fraction."""
    check_layout(layout)
    way = way_to(layout, name)
    check_width(width)
    begin, size = ZERO, as_fraction(width)
    for row, index in way:
        sizes = share(boxes_of(row), size)
        begin = plus(begin, sum_of(sizes[:index]))
        size = sizes[index]
    return begin


def places_in(row, begin, width):
    """The tuples (name, begin, size) of all names in a row that begins somewhere and is given a width."""
    found = []
    for part, size in zip(row, share(boxes_of(row), width)):
        if part.name is not None:
            found.append((part.name, begin, size))
        for inner in part.rows:
            found.extend(places_in(inner, begin, size))
        begin = plus(begin, size)
    return found


def places(layout, width):
    """The tuples (name, begin, size) of all names at a width, in the order of the text."""
    check_layout(layout)
    check_width(width)
    return places_in(outermost_row(layout), ZERO, as_fraction(width))


def spare_of(layout, width):
    """The spare width of the outermost row, a fraction."""
    check_layout(layout)
    check_width(width)
    return spare(boxes_of(outermost_row(layout)), width)


def size_curve(layout, name):
    """The curve of the size of a part."""
    check_layout(layout)
    curve = same_width()
    for row, index in way_to(layout, name):
        boxes = boxes_of(row)
        curve = curve_along(row_stops(boxes), [boxes[index]]).after(curve)
    return curve


def begin_curve(layout, name):
    """The curve of the place where a part begins."""
    check_layout(layout)
    begin, curve = Curve([(ZERO, ZERO)], ZERO), same_width()
    for row, index in way_to(layout, name):
        boxes = boxes_of(row)
        stops = row_stops(boxes)
        begin = begin + curve_along(stops, boxes[:index]).after(curve)
        curve = curve_along(stops, [boxes[index]]).after(curve)
    return begin


def box_sizes_in(row, given):
    """The tuples (name, size curve) of all boxes in a row whose width is a curve."""
    stops = row_stops(boxes_of(row))
    found = []
    for part in row:
        size = curve_along(stops, [part.box]).after(given)
        if not part.rows:
            found.append((part.name, size))
        for inner in part.rows:
            found.extend(box_sizes_in(inner, size))
    return found


def box_sizes(layout):
    """The tuples (name, size curve) of all boxes of a layout, in the order of the text."""
    return box_sizes_in(outermost_row(layout), same_width())


def box_edges_in(row, begin, given):
    """The tuples (name, begin curve, end curve) of all boxes in a row whose begin and width are curves."""
    stops = row_stops(boxes_of(row))
    found = []
    for part in row:
        size = curve_along(stops, [part.box]).after(given)
        end = begin + size
        if not part.rows:
            found.append((part.name, begin, end))
        for inner in part.rows:
            found.extend(box_edges_in(inner, begin, size))
        begin = end
    return found


def box_edges(layout):
    """The tuples (name, begin curve, end curve) of all boxes of a layout, in the order of the text."""
    return box_edges_in(outermost_row(layout), Curve([(ZERO, ZERO)], ZERO), same_width())


def breaks(layout):
    """The ascending widths at which the slope of the size of some box changes."""
    check_layout(layout)
    return ascending([width for _, curve in box_sizes(layout) for width, _ in curve.points[1:]])
