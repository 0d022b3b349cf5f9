"""Drags: dividers between boxes with fixed sizes, dragged with as few drags as possible."""

from boxrows.boxes import MOST_BOXES, limited
from boxrows.errors import (
    InvalidDrags,
    InvalidGoal,
    InvalidNumber,
    InvalidSizes,
    InvalidTimes,
    MixedDrags,
    TooLarge,
)
from boxrows.heights import frees_of, heights_of, lifted_by, lowered_by, sizes_with, swung, taken_to
from boxrows.moves import moves_to
from boxrows.ratios import is_int
from boxrows.shares import check_index

MOST_TIMES = 10 ** 30
MOST_DRAGS = 40
MOST_REPEATED = 12


def are_sizes(value):
    """Whether a value is a list of 2 to 40 integers from 0 on."""
    if not isinstance(value, list) or not 2 <= len(value) <= MOST_BOXES:
        return False
    return all([is_int(size) and size >= 0 for size in value])


def check_sizes(sizes, leasts):
    """Raise InvalidSizes unless both are lists of as many integers, no least one above its size."""
    if not are_sizes(sizes) or not are_sizes(leasts) or len(sizes) != len(leasts):
        raise InvalidSizes("two lists of 2 to 40 integers, equally long, are required")
    if min(frees_of(sizes, leasts)) < 0:
        raise InvalidSizes("a size is less than the least width")


def check_goal(sizes, leasts, goal):
    """Raise InvalidGoal unless the value is a list of other sizes of the same boxes."""
    if not are_sizes(goal) or len(goal) != len(sizes) or sum(goal) != sum(sizes):
        raise InvalidGoal("as many integers as sizes, with the same sum, are required")
    if min(frees_of(goal, leasts)) < 0:
        raise InvalidGoal("a size is less than the least width")


def is_drag(value, many):
    """Whether a value is a tuple of the index of one of many dividers and an integer."""
    if not isinstance(value, tuple) or len(value) != 2:
        return False
    index, number = value
    return is_int(index) and 0 <= index < many and is_int(number)


def check_drags(drags, many):
    """Raise InvalidDrags unless the value is a list of 1 to 40 drags of many dividers."""
    if not isinstance(drags, list) or not 1 <= len(drags) <= MOST_DRAGS:
        raise InvalidDrags("a list of 1 to 40 drags is required")
    if not all([is_drag(drag, many) for drag in drags]):
        raise InvalidDrags("each item must be a tuple of the index of a divider and an integer")


def dragged(sizes, leasts, index, number):
    """The sizes when a divider is dragged."""
    check_sizes(sizes, leasts)
    check_index(index, len(sizes) - 1)
    if not is_int(number):
        raise InvalidNumber("an integer is required")
    heights = heights_of(sizes, leasts)
    height = limited(heights[index] + number, 0, sum(frees_of(sizes, leasts)))
    return sizes_with(taken_to(heights, index, height), leasts, sum(sizes))


def have_one_divider(drags):
    """Whether all drags have one index."""
    return len({index for index, _ in drags}) == 1


def check_directions(drags):
    """Raise MixedDrags unless all drags have one index, or go in one direction."""
    numbers = [number for _, number in drags]
    if not have_one_divider(drags) and min(numbers) < 0 < max(numbers):
        raise MixedDrags("drags of several dividers in both directions")


def repeated_heights(heights, top, drags, times):
    """The heights when drags of one divider, or in one direction, are performed, at least once."""
    numbers = [number for _, number in drags]
    if have_one_divider(drags):
        return swung(heights, top, drags[0][0], numbers, times)
    if min(numbers) < 0:
        return lowered_by(heights, top, drags, times)
    return lifted_by(heights, top, drags, times)


def repeated(sizes, leasts, drags, times):
    """The sizes when drags are performed times times, one after another."""
    check_sizes(sizes, leasts)
    check_drags(drags, len(sizes) - 1)
    if not is_int(times) or not 0 <= times <= MOST_TIMES:
        raise InvalidTimes("an integer from 0 to 10 ** 30 is required")
    check_directions(drags)
    if len(sizes) > MOST_REPEATED:
        raise TooLarge(MOST_REPEATED)
    if times == 0:
        return list(sizes)
    heights = repeated_heights(heights_of(sizes, leasts), sum(frees_of(sizes, leasts)), drags, times)
    return sizes_with(heights, leasts, sum(sizes))


def fewest_drags(sizes, leasts, goal):
    """The least number of drags that lead to a goal."""
    check_sizes(sizes, leasts)
    check_goal(sizes, leasts, goal)
    return len(moves_to(heights_of(sizes, leasts), heights_of(goal, leasts)))


def some_drags(sizes, leasts, goal):
    """As few drags as possible that lead to a goal, one after another."""
    check_sizes(sizes, leasts)
    check_goal(sizes, leasts, goal)
    heights = heights_of(sizes, leasts)
    found = []
    for index, height in moves_to(heights, heights_of(goal, leasts)):
        found.append((index, height - heights[index]))
        heights = taken_to(heights, index, height)
    return found
