"""Rows for the tests, and slow second ways to find what the program returns."""

import itertools
import random
from fractions import Fraction

from boxrows.boxes import Box

EXAMPLE = [Box(10, most=12, grow=1), Box(10, least=4, grow=2, shrink=1), Box(0, grow=1)]


def numbers(box):
    return (box.wish, box.least, box.most, box.grow, box.shrink)


def pair(value):
    value = Fraction(value)
    return (value.numerator, value.denominator)


def fraction(value):
    return Fraction(*value) if isinstance(value, tuple) else Fraction(value)


def any_box(source, top=12, heaviest=3):
    least = source.choice([0, source.randint(0, top)])
    most = source.choice([None, least, source.randint(least, top)])
    return Box(source.randint(0, top), least, most, source.randint(0, heaviest), source.randint(0, heaviest))


def any_row(source, most=5, top=12, heaviest=3):
    return [any_box(source, top, heaviest) for _ in range(source.randint(1, most))]


def small_rows(many=150, seed=1):
    source = random.Random(seed)
    return [any_row(source) for _ in range(many)]


def great_rows(many=12, seed=2):
    source = random.Random(seed)
    return [any_row(source, 40, 10 ** 30, 10 ** 6) for _ in range(many)]


def limited(box, value):
    value = max(value, box.least)
    return value if box.most is None else min(value, box.most)


def slow_size(box, level):
    """The size at a level, word by word as in point 6."""
    level = Fraction(level)
    weight = box.grow if level >= 0 else box.shrink
    return limited(box, box.wish + level * weight)


def slow_sum(boxes, level):
    return sum(slow_size(box, level) for box in boxes)


def far_level(boxes):
    """A level above which, and below whose negative, nothing bends."""
    return 1 + sum(box.wish + box.least + (box.most or 0) for box in boxes)


def bounds(boxes):
    """The least and the greatest width of a row, from levels that are far away."""
    far = far_level(boxes)
    high = slow_sum(boxes, far)
    return Fraction(slow_sum(boxes, -far)), Fraction(high) if slow_sum(boxes, far + 1) == high else None


def some_widths(boxes, source):
    """Widths below, at, between and above the bounds of a row."""
    least, greatest = bounds(boxes)
    middle = Fraction(sum(box.own for box in boxes))
    top = 3 * middle + 10 if greatest is None else greatest
    found = [Fraction(0), least / 2, least - Fraction(1, 7), least, least + Fraction(1, 7), middle, top]
    found += [top - Fraction(1, 3), top + Fraction(2, 3), top + 5, (least + middle) / 2, (middle + top) / 2]
    found += [Fraction(source.randint(0, 10 ** 6), 10 ** 6) * top for _ in range(3)]
    return [Fraction(width) for width in found if width >= 0]


def play_rounds(boxes, width, choose=lambda found: found):
    """The rounds of point 8 and the sizes at the end; choose takes some of the boxes that may be frozen."""
    width = Fraction(width)
    grows = sum(box.own for box in boxes) <= width
    weights = [box.grow if grows else box.shrink for box in boxes]
    frozen = {}
    for at, box in enumerate(boxes):
        above = box.most is not None and box.wish > box.most
        if weights[at] == 0 or (above if grows else box.wish < box.least):
            frozen[at] = Fraction(box.own)
    played = [sorted(frozen)]
    while len(frozen) < len(boxes):
        free = [at for at in range(len(boxes)) if at not in frozen]
        rest = width - sum(frozen.values()) - sum(boxes[at].wish for at in free)
        heavy = sum(weights[at] for at in free)
        shares = {at: boxes[at].wish + rest * weights[at] / heavy for at in free}
        fits = {at: limited(boxes[at], shares[at]) for at in free}
        off = sum(fits.values()) - sum(shares.values())
        chosen = choose([at for at in free
                         if off == 0 or (fits[at] > shares[at] if off > 0 else fits[at] < shares[at])])
        frozen.update({at: fits[at] for at in chosen})
        played.append(chosen)
    return played, [frozen[at] for at in range(len(boxes))]


def rounds_share(boxes, width):
    """The sizes by the rounds of point 8, which lead to those of point 7."""
    return play_rounds(boxes, width)[1]


def some_of(source):
    """A way to choose some of a list, at least one, ascending."""
    return lambda found: sorted(source.sample(found, source.randint(1, len(found))))


def levels_to_try(boxes, sizes):
    """Levels that hold an end of each range of levels at which a box has its size, and far ones."""
    found = {Fraction(0), Fraction(far_level(boxes) + sum(sizes)), -Fraction(far_level(boxes) + sum(sizes))}
    for box, size in zip(boxes, sizes):
        for bound in (box.least, box.most, size):
            for weight in (box.grow, box.shrink):
                if weight and bound is not None:
                    found.add((bound - box.wish) / Fraction(weight))
    return found


def slow_clash(boxes, sizes):
    """The first two boxes without a common level among all levels that can matter."""
    levels = levels_to_try(boxes, sizes)
    fits = [{level for level in levels if slow_size(box, level) == size} for box, size in zip(boxes, sizes)]
    for i in range(len(boxes)):
        for j in range(i, len(boxes)):
            if not fits[i] & fits[j]:
                return (i, j)
    return None


def parts_of_curve(curve):
    """The points and the slope of a curve, as numbers."""
    return [(fraction(width), fraction(value)) for width, value in curve.points], fraction(curve.slope)


def bends_of(points, slope):
    """The points, behind the first one, at which the slope changes."""
    slopes = [(two[1] - one[1]) / Fraction(two[0] - one[0]) for one, two in itertools.pairwise(points)] + [Fraction(slope)]
    return points[:1] + [points[at] for at in range(1, len(points)) if slopes[at - 1] != slopes[at]]
