"""Rounds: how browsers share a width, freezing boxes round by round."""

from boxrows.boxes import MOST_BOXES, Box, check_boxes, limited, own_width
from boxrows.errors import InvalidNumber
from boxrows.ratios import ZERO, as_fraction, is_int, lowest, minus, order, plus
from boxrows.shares import check_width


def does_grow(boxes, width):
    """Whether a row grows when it is given a width; otherwise it shrinks."""
    return order((own_width(boxes), 1), width) <= 0


def weight_of(box, grows):
    """The weight that counts when the row grows, or shrinks."""
    return box.grow if grows else box.shrink


def is_frozen_first(box, grows):
    """Whether a box is frozen at the start."""
    if weight_of(box, grows) == 0:
        return True
    if grows:
        return box.most is not None and box.wish > box.most
    return box.wish < box.least


def first_sizes(boxes, grows):
    """The sizes of the boxes that are frozen at the start, by their indexes."""
    return {index: (box.own, 1) for index, box in enumerate(boxes) if is_frozen_first(box, grows)}


def common_level(free, width, grows, frozen):
    """How much of the rest each free box gets for each unit of its weight."""
    taken = ZERO
    for size in frozen.values():
        taken = plus(taken, size)
    p, q = minus(minus(width, taken), (sum([box.wish for box in free]), 1))
    return lowest(p, q * sum([weight_of(box, grows) for box in free]))


def next_sizes(boxes, width, grows, frozen):
    """The sizes of the boxes that the next round may freeze, by their indexes."""
    free = [index for index in range(len(boxes)) if index not in frozen]
    p, q = common_level([boxes[index] for index in free], width, grows, frozen)
    sizes, excess = {}, {}
    for index in free:
        box = boxes[index]
        # Integers: all of these are q times as great as the document's.
        due = box.wish * q + p * weight_of(box, grows)
        size = limited(due, box.least * q, None if box.most is None else box.most * q)
        sizes[index] = lowest(size, q)
        excess[index] = size - due
    total = sum(list(excess.values()))
    if total > 0:
        return {index: sizes[index] for index in free if excess[index] > 0}
    if total < 0:
        return {index: sizes[index] for index in free if excess[index] < 0}
    return sizes


def rounds(boxes, width):
    """The indexes of the boxes that are frozen at the start, then in each round."""
    check_boxes(boxes)
    check_width(width)
    given = as_fraction(width)
    grows = does_grow(boxes, given)
    frozen = first_sizes(boxes, grows)
    found = [sorted(frozen)]
    while len(frozen) < len(boxes):
        sizes = next_sizes(boxes, given, grows, frozen)
        frozen.update(sizes)
        found.append(sorted(sizes))
    return found


def is_ascending_list(value):
    """Whether a value is a list of integers that ascend."""
    if not isinstance(value, list) or not all([is_int(item) for item in value]):
        return False
    return all([value[at] < value[at + 1] for at in range(len(value) - 1)])


def is_rounds(boxes, width, value):
    """Whether a value tells boxes that may be frozen at the start, then in each round."""
    check_boxes(boxes)
    check_width(width)
    if not isinstance(value, list) or not all([is_ascending_list(item) for item in value]):
        return False
    given = as_fraction(width)
    grows = does_grow(boxes, given)
    frozen = first_sizes(boxes, grows)
    if not value or value[0] != sorted(frozen):
        return False
    for chosen in value[1:]:
        # A list behind the last round is wrong, too: there is nothing left to choose.
        if not chosen or len(frozen) == len(boxes):
            return False
        sizes = next_sizes(boxes, given, grows, frozen)
        if not all([index in sizes for index in chosen]):
            return False
        frozen.update({index: sizes[index] for index in chosen})
    return len(frozen) == len(boxes)


def hard_row(number):
    """As many boxes as number, and a whole width, with as many rounds as boxes."""
    if not is_int(number) or not 1 <= number <= MOST_BOXES:
        raise InvalidNumber("an integer from 1 to 40 is required")
    # Box by box, from the last one to the first one. A box reaches its greatest
    # width at the level top - gap, and the level of the first round is the mean of
    # these levels, by weights. As a gap is 4 times the next one, and a weight at
    # least a third of all behind it, the mean lies above the level of the first box,
    # but not above that of the second one; and likewise for the boxes behind.
    top = 1 << (2 * number)
    boxes, whole, heavy, gap = [], 0, 0, 1
    for _ in range(number):
        weight = max(1, (heavy + 2) // 3)
        most = weight * (top - gap)
        boxes.append(Box(0, most=most, grow=weight))
        whole += most
        heavy += weight
        gap = 4 * gap
    return (boxes[::-1], whole)
