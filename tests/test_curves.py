"""Curves (promises 15 to 20 and 26; section 5 of the interface)."""

import copy
import itertools
import random
import unittest
from fractions import Fraction
from math import ceil, floor

from boxrows import curves
from boxrows.boxes import Box
from boxrows.curves import Curve, box_curve
from boxrows.errors import InvalidBoxes, InvalidCurve, InvalidIndex, InvalidNumber, InvalidWidth
from boxrows.shares import share, widths_with
from tests.rows import (
    EXAMPLE, any_row, bends_of, fraction, great_rows, numbers, pair, parts_of_curve, rounds_share, small_rows, some_widths,
)
from tests.wrong import NO_FRACTIONS, NO_NUMBERS, WRONG_BOXES, WRONG_WIDTHS, EqualToAll, wrong_indexes

GREAT = 10 ** 30
LINE = Curve([((0, 1), (0, 1))], (1, 1))
FLAT = Curve([((0, 1), (3, 1))], (0, 1))
NO_CURVES = NO_NUMBERS + [1, 10, (1, 1), [((0, 1), (0, 1))], Curve, EqualToAll()]


def made(points, slope):
    """A curve from numbers that Fraction takes."""
    return Curve([(pair(width), pair(value)) for width, value in points], pair(slope))


def slow_value(points, slope, width):
    """The value at a width, found point by point."""
    for (begin, value), (end, top) in itertools.pairwise(points):
        if begin <= width <= end:
            return value + (top - value) * (width - begin) / Fraction(end - begin)
    return points[-1][1] + Fraction(slope) * (width - points[-1][0])


def any_points(source, most=6, top=5, bottom=3):
    """Points and a slope; often neighbours have the same slope, or none."""
    width, value = Fraction(0), Fraction(source.randint(0, top), source.randint(1, bottom))
    points, step = [(width, value)], Fraction(0)
    for _ in range(source.randint(0, most - 1)):
        step = source.choice([step, Fraction(0), Fraction(source.randint(0, top), source.randint(1, bottom))])
        run = Fraction(source.randint(1, top), source.randint(1, bottom))
        width, value = width + run, value + step * run
        points.append((width, value))
    return points, source.choice([step, Fraction(0), Fraction(source.randint(0, top), source.randint(1, bottom))])


def great_points(source, many=140):
    """Points of which all numbers have some twenty digits."""
    bottom = source.randint(10 ** 19, 10 ** 20)
    widths = sorted(source.randint(1, 10 ** 20) for _ in range(many - 1))
    values = sorted(source.randint(0, 10 ** 20) for _ in range(many))
    points = [(Fraction(width, bottom) * 10 ** 3, Fraction(value, bottom)) for width, value in zip([0] + widths, values)]
    return points, Fraction(source.randint(1, 10 ** 20), source.randint(1, 10 ** 20))


def widths_around(*lists):
    """All widths of points, widths between them, near them and behind them."""
    edges = sorted({width for points in lists for width, _ in points})
    found = edges + [(one + two) / 2 for one, two in itertools.pairwise(edges)]
    found += [edge + Fraction(1, 10 ** 9) for edge in edges] + [edge - Fraction(1, 10 ** 9) for edge in edges[1:]]
    return found + [edges[-1] + far for far in (1, Fraction(7, 3), 10 ** 6)]


class MadeTest(unittest.TestCase):
    def test_points_and_slope(self):
        source = random.Random(41)
        for _ in range(300):
            points, slope = any_points(source)
            curve = made(points, slope)
            wanted = bends_of(points, slope)
            self.assertEqual(curve.points, [(pair(width), pair(value)) for width, value in wanted])
            self.assertEqual(curve.slope, pair(slope))
            for width in widths_around(points):
                self.assertEqual(curve(pair(width)), pair(slow_value(points, slope, width)))
                if width.denominator == 1:
                    self.assertEqual(curve(int(width)), curve(pair(width)))

    def test_great_curves(self):
        source = random.Random(42)
        for many in (1, 2, 199, 200):
            points, slope = great_points(source, many)
            curve = made(points, slope)
            self.assertEqual(len(curve.points), many)
            for width in widths_around(points):
                self.assertEqual(curve(pair(width)), pair(slow_value(points, slope, width)))
        self.assertEqual(LINE(10 ** 99), (10 ** 99, 1))
        self.assertEqual(LINE((1, 10 ** 99)), (1, 10 ** 99))

    def test_by_hand(self):
        points = [((0, 1), (0, 1)), ((1, 1), (2, 1)), ((2, 1), (4, 1)), ((3, 1), (4, 1)), ((4, 1), (4, 1))]
        self.assertEqual(Curve(points, (0, 1)).points, points[:1] + points[2:3])
        self.assertEqual(Curve(points, (1, 1)).points, points[:1] + points[2:3] + points[4:])
        self.assertEqual(Curve(points[:3], (2, 1)).points, points[:1])
        self.assertEqual(Curve(points[:3], (2, 1)).slope, (2, 1))
        self.assertEqual(Curve(points[:1], (0, 1)).points, points[:1])
        self.assertEqual([Curve(points, (1, 3))(width) for width in (0, 1, (3, 2), 2, 3, 4, 5, 7)],
                         [(0, 1), (2, 1), (3, 1), (4, 1), (4, 1), (4, 1), (13, 3), (5, 1)])

    def test_equal_exactly_if_the_function_is(self):
        source = random.Random(43)
        some = []
        for _ in range(60):
            points, slope = any_points(source, 3, 1, 2)
            more = sorted(points + [(width, slow_value(points, slope, width)) for width in widths_around(points)
                                    if width not in dict(points)])
            self.assertEqual(made(points, slope), made(more, slope))
            self.assertFalse(made(points, slope) != made(more, slope))
            some.append((points, slope))
        for one, two in itertools.product(some, some):
            same = all(slow_value(*one, width) == slow_value(*two, width) for width in widths_around(one[0], two[0]))
            self.assertIs(made(*one) == made(*two), same)
            self.assertIs(made(*one) != made(*two), not same)
        self.assertNotEqual(made([(0, 1)], 1), made([(0, 1)], 2))
        self.assertNotEqual(made([(0, 1)], 1), made([(0, 0)], 1))

    def test_a_curve_equals_no_other_value(self):
        for value in NO_CURVES:
            self.assertIs(LINE == value, False)
            self.assertIs(LINE != value, True)

    def test_lists_are_new(self):
        points = [((0, 1), (0, 1)), ((1, 1), (2, 1))]
        curve = Curve(points, (1, 1))
        curve.points.clear()
        curve.points.append(3)
        self.assertEqual(curve.points, points)
        points.clear()
        self.assertEqual(len(curve.points), 2)
        self.assertEqual(curve((1, 2)), (1, 1))

    def test_the_class_has_what_the_interface_lists(self):
        for name in ("__init__", "points", "slope", "__call__", "__add__", "after", "__eq__", "widths_of", "differs_from",
                     "falls_below"):
            self.assertIn(name, vars(Curve))
        self.assertEqual([Curve.__module__, curves.box_curve.__module__], ["boxrows.curves"] * 2)


class WrongCurveTest(unittest.TestCase):
    def fails(self, error, function, *args):
        with self.subTest(function=function, args=args):
            with self.assertRaises(error) as caught:
                function(*args)
            self.assertIs(caught.exception.__class__, error)

    def test_wrong_points(self):
        zero = ((0, 1), (0, 1))
        one = ((1, 1), (1, 1))
        lists = [None, True, 3, "points", (), [], {}, {zero}, (zero,), iter([zero]), zero, [zero] * 2, [one], [zero, zero],
                 [one, zero], [zero, one, one], [zero, one, ((1, 1), (2, 1))], [zero, one, ((2, 1), (1, 2))],
                 [zero, one, ((1, 2), (1, 1))], [((1, 2), (0, 1))], [((0, 1), (-1, 1))], [((0, 1), (-1, 2)), one],
                 [((-1, 1), (0, 1)), one], [zero, ((-1, 1), (1, 1))], [zero, one, [(2, 1), (1, 1)]], [list(zero)],
                 [((0, 1),)], [((0, 1), (0, 1), (0, 1))], [(0, 0)], [(0, (0, 1))], [((0, 1), 0)], [zero, (1, 1)], [zero, ()],
                 [zero, {0: 1}], [zero, None], [zero, "ab"], [((0, 1), [0, 1])], [([0, 1], (0, 1))], [((0, 2), (0, 1))]]
        for slope in ((1, 1), (-1, 1), None):
            for points in lists:
                self.fails(InvalidCurve, Curve, points, slope)
        for value in NO_NUMBERS + NO_FRACTIONS + [0, 1, (-1, 1), (-1, 2), (-(10 ** 40), 3)]:
            self.fails(InvalidCurve, Curve, [zero, (value, (1, 1))], (1, 1))
            self.fails(InvalidCurve, Curve, [zero, ((1, 1), value)], (1, 1))
            self.fails(InvalidCurve, Curve, [(value, (0, 1)), one], (1, 1))
            self.fails(InvalidCurve, Curve, [((0, 1), value)], (1, 1))
            self.fails(InvalidCurve, Curve, [zero, value], (1, 1))
            self.fails(InvalidCurve, Curve, [zero, one], value)
            self.fails(InvalidCurve, Curve, value, (1, 1))

    def test_the_number_of_points(self):
        points = [((at, 1), (at * at, 1)) for at in range(201)]
        self.assertEqual(len(Curve(points[:200], (0, 1)).points), 200)
        self.fails(InvalidCurve, Curve, points, (0, 1))
        line = [((at, 1), (at, 1)) for at in range(201)]
        self.assertEqual(len(Curve(line[:200], (1, 1)).points), 1)
        self.fails(InvalidCurve, Curve, line, (1, 1))

    def test_more_points_than_a_curve_takes(self):
        one = Curve([((2 * at, 1), (at * at, 1)) for at in range(200)], (0, 1))
        two = Curve([((0, 1), (0, 1))] + [((2 * at + 1, 1), (at * at, 1)) for at in range(199)], (0, 1))
        both = one + two
        self.assertEqual(len(both.points), 399)
        self.fails(InvalidCurve, Curve, both.points, both.slope)
        self.assertEqual(len((both + both).points), 399)
        self.assertEqual(LINE.after(both), both)
        half = both.points[:200]
        self.assertEqual(Curve(half, (0, 1)).points, half)

    def test_wrong_widths(self):
        for width in WRONG_WIDTHS:
            self.fails(InvalidWidth, LINE, width)
            self.fails(InvalidWidth, FLAT, width)

    def test_wrong_values(self):
        for value in WRONG_WIDTHS:
            self.fails(InvalidNumber, LINE.widths_of, value)
            self.fails(InvalidNumber, FLAT.widths_of, value)

    def test_no_curves(self):
        for value in NO_CURVES:
            self.fails(InvalidCurve, LINE.__add__, value)
            self.fails(InvalidCurve, LINE.after, value)
            self.fails(InvalidCurve, LINE.differs_from, value)
            self.fails(InvalidCurve, LINE.falls_below, value)
        with self.assertRaises(InvalidCurve):
            LINE + 3
        with self.assertRaises(InvalidCurve):
            LINE + None

    def test_box_curve(self):
        for boxes in WRONG_BOXES:
            for index in (0, -1, None):
                self.fails(InvalidBoxes, box_curve, boxes, index)
        for index in wrong_indexes(3):
            self.fails(InvalidIndex, box_curve, EXAMPLE, index)
            self.fails(InvalidBoxes, box_curve, [], index)

    def test_arguments_do_not_change(self):
        points, slope = [((0, 1), (0, 1)), ((1, 1), (1, 1)), ((2, 1), (2, 1))], (1, 1)
        before = copy.deepcopy(points)
        curve = Curve(points, slope)
        self.assertEqual(points, before)
        bad = [((0, 1), (0, 1)), ((1, 1), (1, 1)), ((1, 1), (2, 1))]
        before = copy.deepcopy(bad)
        self.fails(InvalidCurve, Curve, bad, slope)
        self.assertEqual(bad, before)
        self.fails(InvalidCurve, curve.after, bad)
        self.fails(InvalidWidth, curve, -1)
        self.assertEqual(curve, LINE)


class TwoCurvesTest(unittest.TestCase):
    def check(self, one, two):
        """The sum and the composition of two curves, given by points and slopes."""
        left, right = made(*one), made(*two)
        before = [parts_of_curve(curve) for curve in (left, right)]
        total, chain = left + right, left.after(right)
        for curve in (total, chain):
            points, slope = parts_of_curve(curve)
            self.assertEqual(bends_of(points, slope), points)
        widths = widths_around(one[0], two[0], parts_of_curve(total)[0], parts_of_curve(chain)[0])
        for width in widths:
            middle = slow_value(*two, width)
            self.assertEqual(total(pair(width)), pair(slow_value(*one, width) + middle))
            self.assertEqual(chain(pair(width)), pair(slow_value(*one, middle)))
        self.assertEqual([parts_of_curve(curve) for curve in (left, right)], before)
        self.assertEqual(right + left, total)

    def test_small_curves(self):
        source = random.Random(44)
        for _ in range(300):
            self.check(any_points(source), any_points(source))

    def test_great_curves(self):
        source = random.Random(45)
        for _ in range(2):
            one, two = great_points(source), great_points(source)
            # The values of the second curve go over all widths of the first one.
            high = [(width, value * 10 ** 4) for width, value in two[0]]
            self.check(one, two)
            self.check(one, (high, two[1]))
            left, right = made(*one), made(high, two[1])
            self.assertGreater(len((left + right).points), 270)
            self.assertGreater(len(left.after(right).points), 200)

    def test_by_hand(self):
        bent = made([(0, 0), (4, 2)], Fraction(1, 3))
        back = made([(0, 0), (4, 0)], Fraction(1, 6))
        self.assertEqual((bent + back).points, [((0, 1), (0, 1))])
        self.assertEqual((bent + back).slope, (1, 2))
        step = made([(0, 0), (1, 0), (2, 1)], 0)
        self.assertEqual(step.after(made([(0, Fraction(1, 2))], 1)).points,
                         [((0, 1), (0, 1)), ((1, 2), (0, 1)), ((3, 2), (1, 1))])
        self.assertEqual(FLAT.after(bent), FLAT)
        self.assertEqual(bent.after(FLAT).points, [((0, 1), (3, 2))])
        self.assertEqual([LINE.after(bent), bent.after(LINE)], [bent, bent])
        self.assertEqual(step.after(step).points, [((0, 1), (0, 1))])
        self.assertEqual(step.after(step).slope, (0, 1))
        self.assertEqual((LINE + LINE).slope, (2, 1))
        self.assertEqual(LINE.after(LINE), LINE)


class WidthsOfTest(unittest.TestCase):
    def slow(self, points, slope, value):
        """The least and the greatest width with a value, from all pieces."""
        hits = []
        for (begin, low), (end, high) in itertools.pairwise(points):
            if low == value:
                hits.append(begin)
            if high == value:
                hits.append(end)
            if low < value < high:
                hits.append(begin + (value - low) * (end - begin) / Fraction(high - low))
        width, last = points[-1]
        if last == value:
            hits.append(width)
            if slope == 0:
                return (pair(min(hits)), None)
        if last < value and slope > 0:
            hits.append(width + (value - last) / slope)
        return (pair(min(hits)), pair(max(hits))) if hits else None

    def check(self, points, slope, values):
        curve = made(points, slope)
        for value in values:
            self.assertEqual(curve.widths_of(pair(value)), self.slow(points, slope, value))
            if value.denominator == 1:
                self.assertEqual(curve.widths_of(int(value)), curve.widths_of(pair(value)))

    def test_small_curves(self):
        source = random.Random(46)
        for _ in range(300):
            points, slope = any_points(source)
            values = {value for _, value in points} | {Fraction(at, 2) for at in range(12)} | {Fraction(10 ** 40)}
            self.check(points, slope, values | {points[-1][1] + 1})

    def test_great_curves(self):
        source = random.Random(47)
        points, slope = great_points(source)
        values = [value for _, value in points]
        self.check(points, slope, values + [(one + two) / 2 for one, two in itertools.pairwise(values)])

    def test_by_hand(self):
        curve = made([(0, 2), (3, 2), (5, 4), (6, 4), (7, 5)], 0)
        rows = [(0, None), (1, None), ((3, 2), None), (2, ((0, 1), (3, 1))), (3, ((4, 1), (4, 1))), (4, ((5, 1), (6, 1))),
                (5, ((7, 1), None)), (6, None), ((9, 2), ((13, 2), (13, 2))), ((11, 2), None), (10 ** 99, None)]
        for value, found in rows:
            self.assertEqual(curve.widths_of(value), found)
        self.assertEqual(FLAT.widths_of(3), ((0, 1), None))
        self.assertEqual([FLAT.widths_of(value) for value in (2, 4, 0)], [None] * 3)
        self.assertEqual(LINE.widths_of(0), ((0, 1), (0, 1)))
        self.assertEqual(LINE.widths_of(10 ** 99), ((10 ** 99, 1), (10 ** 99, 1)))
        self.assertEqual(LINE.widths_of((1, 10 ** 99)), ((1, 10 ** 99), (1, 10 ** 99)))


class FirstWidthTest(unittest.TestCase):
    def test_against_all_widths(self):
        source = random.Random(48)
        seen = {"differs": {}, "falls": {}}
        for _ in range(500):
            one, two = any_points(source, 4, 3), any_points(source, 4, 3)
            if source.randint(0, 2):
                two = self.changed(source, one)
            # Behind the last points, slopes that differ by a ninth or more decide within some hundred widths.
            wholes = range(400)
            left = [slow_value(*one, whole) for whole in wholes]
            right = [slow_value(*two, whole) for whole in wholes]
            differs = next((whole for whole in wholes if left[whole] != right[whole]), None)
            falls = next((whole for whole in wholes if left[whole] < right[whole]), None)
            self.assertEqual(made(*one).differs_from(made(*two)), differs)
            self.assertEqual(made(*one).falls_below(made(*two)), falls)
            seen["differs"][differs] = seen["falls"][falls] = True
        for kind in seen.values():
            self.assertLessEqual({None, 0, 1, 2, 3}, set(kind))
        self.assertGreater(max(at for at in seen["falls"] if at is not None), 10)

    def changed(self, source, curve):
        """Nearly the same curve: another slope from behind the last point on, or another value at a point."""
        points, slope = curve
        if source.randint(0, 1):
            end = points[-1][0] + source.randint(1, 9)
            slopes = [slope, slope + Fraction(1, 3), slope / 2]
            return points + [(end, slow_value(points, slope, end))], source.choice(slopes)
        at = source.randrange(len(points))
        width, value = points[at]
        low = points[at - 1][1] if at else 0
        high = points[at + 1][1] if at + 1 < len(points) else value + 1
        return points[:at] + [(width, source.choice([low, high, (low + value) / 2]))] + points[at + 1:], slope

    def test_between_whole_widths_only(self):
        third, half = Fraction(1, 3), Fraction(1, 2)
        bump = made([(0, 0), (5 + third, 5 + third), (5 + half, 5 + 2 * third), (5 + 2 * third, 5 + 2 * third)], 1)
        self.assertNotEqual(bump, LINE)
        self.assertIsNone(LINE.differs_from(bump))
        self.assertIsNone(bump.differs_from(LINE))
        self.assertIsNone(LINE.falls_below(bump))
        self.assertIsNone(bump.falls_below(LINE))
        self.assertEqual(LINE.falls_below(bump + made([(0, 0), (9, 0), (10, 1)], 0)), 10)

    def test_the_same_curve(self):
        for curve in (LINE, FLAT, made(*great_points(random.Random(49)))):
            self.assertIsNone(curve.differs_from(curve))
            self.assertIsNone(curve.falls_below(curve))

    def test_far_away(self):
        far = 10 ** 41
        bent = made([(0, 0), (far, far)], 2)
        self.assertEqual([LINE.differs_from(bent), LINE.falls_below(bent), bent.falls_below(LINE)], [far + 1, far + 1, None])
        tiny = made([(0, 5)], 1 - Fraction(1, far))
        self.assertEqual([LINE.differs_from(tiny), LINE.falls_below(tiny), tiny.falls_below(LINE)], [0, 0, 5 * far + 1])
        close = made([(0, 5)], 1 - Fraction(3, far))
        self.assertEqual(close.falls_below(LINE), 5 * far // 3 + 1)
        late = made([(0, 0), (far + Fraction(1, 2), far + Fraction(1, 2))], 1 + Fraction(1, far))
        self.assertEqual([LINE.differs_from(late), LINE.falls_below(late)], [far + 1, far + 1])
        short = made([(0, 0), (far + Fraction(1, 3), far + Fraction(1, 3)), (far + Fraction(2, 3), far + Fraction(1, 3))], 1)
        self.assertEqual([short.differs_from(LINE), short.falls_below(LINE), LINE.falls_below(short)], [far + 1, far + 1, None])

    def test_a_meeting_at_a_whole_width_is_no_fall(self):
        one = made([(0, 6)], 1)
        two = made([(0, 0)], 2)
        self.assertEqual([one.falls_below(two), two.falls_below(one), one.differs_from(two)], [7, 0, 0])
        touch = made([(0, 0), (6, 12)], 1)
        self.assertIsNone(touch.falls_below(made([(0, 0)], Fraction(1, 2))))
        self.assertEqual(touch.falls_below(two), 7)


class BoxCurveTest(unittest.TestCase):
    def check(self, boxes, source):
        before = [numbers(box) for box in boxes]
        found = [box_curve(boxes, index) for index in range(len(boxes))]
        edges = [fraction(width) for curve in found for width, _ in curve.points]
        chosen = source.sample(edges, min(len(edges), 25))
        widths = some_widths(boxes, source) + chosen + [edge + Fraction(1, 10 ** 9) for edge in chosen] + [max(edges) + 5]
        for width in widths:
            sizes = rounds_share(boxes, width)
            self.assertEqual([curve(pair(width)) for curve in found], [pair(size) for size in sizes])
            self.assertEqual(share(boxes, pair(width)), [pair(size) for size in sizes])
        for curve in found:
            points, slope = parts_of_curve(curve)
            self.assertEqual(bends_of(points, slope), points)
        self.assertEqual([numbers(box) for box in boxes], before)

    def test_rows(self):
        source = random.Random(50)
        for boxes in small_rows(150, 51) + great_rows(5, 52):
            self.check(boxes, source)

    def test_by_hand(self):
        rows = [
            ([Box(5)], 0, [(0, 5)], 0),
            ([Box(5, shrink=1)], 0, [(0, 0), (5, 5)], 0),
            ([Box(5, grow=1)], 0, [(0, 5), (5, 5)], 1),
            ([Box(5, grow=1, shrink=1)], 0, [(0, 0)], 1),
            ([Box(0, grow=1), Box(0, grow=2)], 1, [(0, 0)], Fraction(2, 3)),
            ([Box(0, most=0, grow=1), Box(0, grow=2)], 0, [(0, 0)], 0),
            (EXAMPLE, 1, [(0, 4), (14, 4), (20, 10), (28, Fraction(42, 3))], Fraction(2, 3)),
        ]
        for boxes, index, points, slope in rows:
            curve = box_curve(boxes, index)
            wanted = made(points, slope)
            self.assertEqual(curve, wanted)
            self.assertEqual([curve.points, curve.slope], [wanted.points, wanted.slope])

    def test_many_points(self):
        boxes = [Box(100 + at, at, 200 + at, at + 1, 50 - at) for at in range(40)]
        curve = box_curve(boxes, 17)
        self.assertEqual(len(curve.points), 43)
        self.assertEqual(Curve(curve.points, curve.slope), curve)
        self.check(boxes, random.Random(53))

    def test_widths_with_are_the_whole_widths_among_widths_of(self):
        for boxes in small_rows(100, 54) + great_rows(4, 55):
            for index, box in enumerate(boxes):
                for number in {0, 1, 3, box.own, box.least, box.most or 0, box.wish, box.own + 1}:
                    found = box_curve(boxes, index).widths_of(number)
                    wanted = None
                    if found is not None:
                        low = ceil(fraction(found[0]))
                        high = None if found[1] is None else floor(fraction(found[1]))
                        wanted = (low, high) if high is None or low <= high else None
                    self.assertEqual(widths_with(boxes, index, number), wanted)

    def test_all_boxes_together(self):
        source = random.Random(56)
        for _ in range(60):
            boxes = any_row(source)
            total = Curve([((0, 1), (0, 1))], (0, 1))
            for index in range(len(boxes)):
                total = total + box_curve(boxes, index)
            for width in some_widths(boxes, source):
                self.assertEqual(fraction(total(pair(width))), sum(rounds_share(boxes, width)))


if __name__ == "__main__":
    unittest.main()
