"""Sames: whether two layouts lead to the same sizes, and rows within rows put flat."""

from math import gcd

from boxrows.boxes import HEAVIEST, MOST_BOXES, wide_box
from boxrows.errors import OtherNames, TooLarge
from boxrows.layouts import Layout, check_layout, outermost_row, row_place
from boxrows.parts import Part, row_words
from boxrows.places import box_sizes


def names_of_boxes(row):
    """The names of all boxes in a row."""
    found = []
    for part in row:
        if not part.rows:
            found.append(part.name)
        for inner in part.rows:
            found.extend(names_of_boxes(inner))
    return found


def check_two_layouts(layout, layout2):
    """Raise InvalidLayout or OtherNames unless both are layouts whose boxes have the same names."""
    check_layout(layout)
    check_layout(layout2)
    if sorted(names_of_boxes(outermost_row(layout))) != sorted(names_of_boxes(outermost_row(layout2))):
        raise OtherNames("the boxes of both layouts must have the same names")


def first_difference(layout, layout2):
    """The least whole width at which some box has different sizes in two layouts, or None."""
    check_two_layouts(layout, layout2)
    others = {name: curve for name, curve in box_sizes(layout2)}
    wholes = [curve.differs_from(others[name]) for name, curve in box_sizes(layout)]
    return min([whole for whole in wholes if whole is not None], default=None)


def same_sizes(layout, layout2):
    """Whether all boxes have the same sizes in two layouts at all whole widths."""
    return first_difference(layout, layout2) is None


def growing_weight(box):
    """The grow weight of a box that can grow; 0 for any other box."""
    return box.grow if box.most is None or box.most > box.own else 0


def shrinking_weight(box):
    """The shrink weight of a box that can shrink; 0 for any other box."""
    return box.shrink if box.least < box.own else 0


def lowest_terms(weights):
    """The least integers in the same proportions; 0 if all are 0."""
    common = 0
    for weight in weights:
        common = gcd(common, weight)
    return [weight // max(common, 1) for weight in weights]


def flat_weights(around, index, inner):
    """The weights of one side, if parts with some weights stand in the place of the part with an index."""
    # All are multiplied by the sum of the inner ones, so that none is a fraction.
    whole = max(sum(inner), 1)
    weights = [weight * whole for weight in around]
    weights[index:index + 1] = [weight * around[index] for weight in inner]
    found = lowest_terms(weights)
    if max(found) > HEAVIEST:
        raise TooLarge(HEAVIEST)
    return found


def weighted(part, grow, shrink):
    """The part with other weights."""
    box = part.box
    return Part(part.name, part.rows, wide_box(box.wish, box.least, box.most, grow, shrink))


def merged(row, index):
    """The row in which the parts of the row with an index stand in its place."""
    inner = row[index].rows[0]
    grows = flat_weights([part.box.grow for part in row], index, [growing_weight(part.box) for part in inner])
    shrinks = flat_weights([part.box.shrink for part in row], index, [shrinking_weight(part.box) for part in inner])
    parts = row[:index] + inner + row[index + 1:]
    if len(parts) > MOST_BOXES:
        raise TooLarge(MOST_BOXES)
    return [weighted(part, grow, shrink) for part, grow, shrink in zip(parts, grows, shrinks)]


def flat_row(row, name):
    """The row, with the parts of the row with a name in its place, if that one lies in it."""
    for index, part in enumerate(row):
        if part.name == name:
            return merged(row, index)
    return [Part(part.name, [flat_row(inner, name) for inner in part.rows], part.box) for part in row]


def flatten(layout, name):
    """The layout in which the parts of a row stand in its place."""
    check_layout(layout)
    row_place(layout, name)
    return Layout(" ".join(row_words(flat_row(outermost_row(layout), name))))


def first_unflat(layout, name):
    """The least whole width at which some box has another size once a row is put flat, or None."""
    return first_difference(layout, flatten(layout, name))


def is_flat(layout, name):
    """Whether all boxes keep their sizes at all whole widths once a row is put flat."""
    return first_unflat(layout, name) is None
