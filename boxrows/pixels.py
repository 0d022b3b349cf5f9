"""Pixels: sizes laid on pixels, and whether two layouts lead to the same ones."""

from boxrows.edges import stretches
from boxrows.layouts import check_layout, way_to
from boxrows.places import begin_of, box_edges, places, size_of
from boxrows.ratios import plus
from boxrows.sames import check_two_layouts
from boxrows.shares import check_whole


def pixel_edge(place):
    """The pixel edge at a place, a fraction."""
    p, q = place
    return (2 * p + q) // (2 * q)


def pixels(layout, whole):
    """The tuples (name, pixel begin, pixel size) of all names at a whole width, in the order of the text."""
    check_layout(layout)
    check_whole(whole)
    return [pixel_place(name, begin, size) for name, begin, size in places(layout, whole)]


def pixel_place(name, begin, size):
    """The tuple (name, pixel begin, pixel size) of a part."""
    edge = pixel_edge(begin)
    return (name, edge, pixel_edge(plus(begin, size)) - edge)


def pixel_size(layout, name, whole):
    """The pixel size of a part at a whole width."""
    check_layout(layout)
    way_to(layout, name)
    check_whole(whole)
    return pixel_place(name, begin_of(layout, name, whole), size_of(layout, name, whole))[2]


def first_other_edge(one, two):
    """The least whole width at which the pixel edges of two curves differ, or None."""
    if one == two:
        return None
    for stretch in stretches(one, two):
        whole = stretch.first_difference()
        if whole is not None:
            return whole
    return None


def first_pixel_difference(layout, layout2):
    """The least whole width at which some box has another pixel begin or pixel size, or None."""
    check_two_layouts(layout, layout2)
    others = {name: (begin, end) for name, begin, end in box_edges(layout2)}
    wholes = []
    for name, begin, end in box_edges(layout):
        begin2, end2 = others[name]
        wholes.extend([first_other_edge(begin, begin2), first_other_edge(end, end2)])
    return min([whole for whole in wholes if whole is not None], default=None)


def same_pixels(layout, layout2):
    """Whether each box has the same pixel begin and pixel size in two layouts at all whole widths."""
    return first_pixel_difference(layout, layout2) is None
