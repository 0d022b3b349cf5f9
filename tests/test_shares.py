"""Shares (promises 4 to 9; section 3 of the interface)."""

import itertools
import random
import unittest
from fractions import Fraction
from math import ceil

from boxrows import shares
from boxrows.boxes import Box, greatest_width, least_width
from boxrows.errors import InvalidBoxes, InvalidIndex, InvalidNumber, InvalidShares, InvalidWidth
from boxrows.shares import clash, level_range, share, spare, widths_with
from tests.rows import (
    EXAMPLE, bounds, far_level, fraction, great_rows, numbers, pair, rounds_share, slow_clash, slow_size, slow_sum,
    small_rows, some_widths,
)
from tests.wrong import WRONG_BOXES, WRONG_NUMBERS, WRONG_WIDTHS, wrong_indexes, wrong_shares

GREAT = 10 ** 30


def sizes_of(boxes, width):
    return [fraction(size) for size in share(boxes, width)]


def is_lowest(value):
    return value.__class__ is tuple and value == pair(fraction(value))


class ShareTest(unittest.TestCase):
    def check(self, boxes, width):
        """All of point 7, for one width."""
        passed = pair(width)
        found = share(boxes, passed)
        self.assertTrue(all(is_lowest(size) for size in found))
        self.assertTrue(is_lowest(spare(boxes, passed)))
        sizes = [fraction(size) for size in found]
        least, greatest = bounds(boxes)
        if width <= least:
            self.assertEqual(sizes, [slow_size(box, -far_level(boxes)) for box in boxes])
        elif greatest is not None and width >= greatest:
            self.assertEqual(sizes, [slow_size(box, far_level(boxes)) for box in boxes])
        else:
            self.assertEqual(sum(sizes), width)
            self.assertIsNone(slow_clash(boxes, sizes))
        self.assertEqual(sizes, rounds_share(boxes, width))
        self.assertEqual(fraction(spare(boxes, passed)), width - sum(sizes))
        if width.denominator == 1:
            self.assertEqual(share(boxes, int(width)), found)
            self.assertEqual(spare(boxes, int(width)), spare(boxes, passed))

    def test_small_rows(self):
        source = random.Random(4)
        for boxes in small_rows():
            for width in some_widths(boxes, source):
                self.check(boxes, width)

    def test_great_rows(self):
        source = random.Random(5)
        for boxes in great_rows():
            for width in some_widths(boxes, source) + [Fraction(10 ** 99), Fraction(10 ** 40, 3)]:
                self.check(boxes, width)

    def test_spare_below_between_and_above(self):
        boxes = [Box(5, 2, 8, 1, 1), Box(5, 4, 6, 1, 1)]
        rows = [(0, (-6, 1)), ((11, 2), (-1, 2)), (6, (0, 1)), (9, (0, 1)), ((41, 3), (0, 1)), (14, (0, 1)), ((29, 2), (1, 2)), (20, (6, 1))]
        self.assertEqual([spare(boxes, width) for width, _ in rows], [rest for _, rest in rows])

    def test_rows_without_weights(self):
        boxes = [Box(3), Box(9, most=4)]
        for width in (0, 6, 7, 8, (1, 2)):
            self.assertEqual(share(boxes, width), [(3, 1), (4, 1)])

    def test_new_lists_and_boxes_that_stay(self):
        boxes = list(EXAMPLE)
        before = [numbers(box) for box in boxes]
        first = share(boxes, 26)
        first.append("more")
        self.assertEqual(share(boxes, 26), [(23, 2), (13, 1), (3, 2)])
        spare(boxes, 26), level_range(boxes, 26), widths_with(boxes, 0, 11), clash(boxes, share(boxes, 26))
        self.assertEqual([numbers(box) for box in boxes], before)
        self.assertTrue(all(one is two for one, two in zip(boxes, EXAMPLE)) and len(boxes) == 3)

    def test_defined_in_their_file(self):
        for name in ("share", "spare", "level_range", "widths_with", "clash"):
            self.assertEqual(getattr(shares, name).__module__, "boxrows.shares")


class LevelRangeTest(unittest.TestCase):
    def check(self, boxes, width):
        least, greatest = bounds(boxes)
        found = level_range(boxes, pair(width))
        if width < least or (greatest is not None and width > greatest):
            self.assertIsNone(found)
            return
        low, high = found
        self.assertTrue(low is None or is_lowest(low))
        self.assertTrue(high is None or is_lowest(high))
        tiny, far = Fraction(1, 10 ** 60), far_level(boxes)
        begin = -far if low is None else fraction(low)
        end = max(far, begin) if high is None else fraction(high)
        self.assertLessEqual(begin, end)
        self.assertEqual([slow_sum(boxes, begin), slow_sum(boxes, end)], [width, width])
        if low is not None:
            self.assertLess(slow_sum(boxes, begin - tiny), width)
        if high is not None:
            self.assertGreater(slow_sum(boxes, end + tiny), width)
        self.assertEqual(low is None, width == least)
        self.assertEqual(high is None, greatest is not None and width == greatest)

    def test_rows(self):
        source = random.Random(6)
        for boxes in small_rows() + great_rows():
            for width in some_widths(boxes, source):
                self.check(boxes, width)

    def test_by_hand(self):
        flat = [Box(3), Box(9, most=4, grow=1)]
        gap = [Box(0, 5, grow=1, shrink=1), Box(9, 0, 6, shrink=1)]
        rows = [
            (flat, 7, (None, None)),
            (flat, 6, None),
            (flat, (15, 2), None),
            (gap, 11, ((-3, 1), (5, 1))),
            (gap, 10, ((-4, 1), (-4, 1))),
            (gap, 5, (None, (-9, 1))),
            (gap, (9, 2), None),
            (gap, (23, 2), ((11, 2), (11, 2))),
            (EXAMPLE, 14, (None, (-6, 1))),
            (EXAMPLE, 20, ((0, 1), (0, 1))),
            (EXAMPLE[:1], 12, ((2, 1), None)),
            (EXAMPLE[:1], 10, (None, (0, 1))),
            ([Box(0, grow=1)], 10 ** 99, ((10 ** 99, 1), (10 ** 99, 1))),
        ]
        for boxes, width, found in rows:
            self.assertEqual(level_range(boxes, width), found)


class WidthsWithTest(unittest.TestCase):
    def test_against_all_widths(self):
        for boxes in small_rows(60, 7):
            least, greatest = bounds(boxes)
            # At the level 20 each box of a small row is above 15, or has its last size.
            top = int(slow_sum(boxes, 20)) if greatest is None else int(greatest) + 3
            table = [sizes_of(boxes, width) for width in range(top + 1)]
            for index in range(len(boxes)):
                for number in range(15):
                    hits = [width for width in range(top + 1) if table[width][index] == number]
                    wanted = (hits[0], None if hits[-1] == top else hits[-1]) if hits else None
                    self.assertEqual(widths_with(boxes, index, number), wanted)

    def test_great_numbers(self):
        boxes = [Box(0, grow=1), Box(0, most=GREAT, grow=2), Box(GREAT, grow=0, shrink=10 ** 6)]
        self.assertEqual(widths_with(boxes, 2, GREAT), (GREAT, None))
        self.assertEqual(widths_with(boxes, 2, GREAT - 1), (GREAT - 1, GREAT - 1))
        self.assertEqual(widths_with(boxes, 1, 0), (0, GREAT))
        self.assertEqual(widths_with(boxes, 1, GREAT), (2 * GREAT + GREAT // 2, None))
        self.assertEqual(widths_with(boxes, 1, GREAT - 1), None)
        self.assertEqual(widths_with(boxes, 0, 10 ** 99), (10 ** 99 + 2 * GREAT, 10 ** 99 + 2 * GREAT))
        self.assertIsNone(widths_with(boxes, 1, GREAT + 1))

    def test_ends_of_great_rows(self):
        for boxes in great_rows(8, 8):
            for index, box in enumerate(boxes):
                for number in {box.own, box.least, box.most or 0, box.wish, box.own + 1}:
                    self.check_ends(boxes, index, number)

    def check_ends(self, boxes, index, number):
        found = widths_with(boxes, index, number)
        size = lambda width: sizes_of(boxes, width)[index]
        if found is None:
            span = level_range([boxes[index]], number)
            if span is not None:
                low, high = (slow_sum(boxes, fraction(level)) for level in span)
                self.assertGreater(ceil(low), high)
            return
        low, high = found
        self.assertEqual(size(low), number)
        if low > 0:
            self.assertLess(size(low - 1), number)
        if high is None:
            self.assertEqual(size(max(low, 10 ** 60)), number)
        else:
            self.assertEqual(size(high), number)
            self.assertGreater(size(high + 1), number)

    def test_by_hand(self):
        two = [Box(0, grow=1), Box(0, grow=2)]
        three = [Box(3, 3, 3), Box(0, most=1, grow=1)]
        self.assertEqual([widths_with(two, 0, n) for n in range(3)], [(0, 0), (3, 3), (6, 6)])
        self.assertEqual([widths_with(two, 1, n) for n in range(5)], [(0, 0), None, (3, 3), None, (6, 6)])
        self.assertEqual([widths_with(three, 0, n) for n in (2, 3, 4)], [None, (0, None), None])
        self.assertEqual([widths_with(three, 1, n) for n in (0, 1, 2)], [(0, 3), (4, None), None])


class ClashTest(unittest.TestCase):
    def test_shares_do_not_clash(self):
        source = random.Random(9)
        for boxes in small_rows(80, 10) + great_rows(6, 11):
            for width in some_widths(boxes, source):
                self.assertIsNone(clash(boxes, share(boxes, pair(width))))

    def test_against_the_slow_way(self):
        source = random.Random(12)
        seen = {}
        for boxes in small_rows(400, 13):
            sizes = self.some_sizes(source, boxes)
            passed = [pair(size) for size in sizes]
            before = list(passed)
            found = clash(boxes, passed)
            seen[found] = True
            self.assertEqual(found, slow_clash(boxes, sizes))
            self.assertEqual(passed, before)
        for kind in (None, (0, 0), (0, 1), (0, 4), (1, 2), (1, 3), (2, 3)):
            self.assertIn(kind, seen)

    def some_sizes(self, source, boxes):
        """The sizes at a level, some of them at another one, or any number."""
        level = Fraction(source.randint(-12, 12), source.randint(1, 3))
        sizes = [slow_size(box, level) for box in boxes]
        for at in range(len(boxes)):
            kind = source.randint(0, 9)
            if kind < 2:
                sizes[at] = slow_size(boxes[at], level + source.choice([-1, 1, 5, -5, Fraction(1, 9)]))
            elif kind == 2:
                sizes[at] = Fraction(source.randint(0, 30), 2)
        return sizes

    def test_by_hand(self):
        boxes = [Box(5, 2, 8, 1, 1), Box(3), Box(5, 0, None, 1, 1), Box(6, 0, 7, 1, 0)]
        rows = [
            ([(5, 1), (3, 1), (5, 1), (6, 1)], None),
            ([(2, 1), (3, 1), (0, 1), (6, 1)], None),
            ([(8, 1), (3, 1), (10 ** 40, 1), (7, 1)], None),
            ([(9, 1), (3, 1), (5, 1), (6, 1)], (0, 0)),
            ([(8, 1), (4, 1), (9, 1), (7, 1)], (0, 1)),
            ([(8, 1), (3, 1), (15, 2), (7, 1)], (0, 2)),
            ([(8, 1), (3, 1), (9, 1), (13, 2)], (0, 3)),
            ([(3, 1), (3, 1), (3, 1), (5, 1)], (0, 3)),
            ([(2, 1), (3, 1), (2, 1), (7, 1)], (0, 3)),
        ]
        for sizes, found in rows:
            self.assertEqual(clash(boxes, sizes), found)
        self.assertEqual(clash(boxes[1:], [(3, 1), (6, 1), (6, 1)]), (1, 2))
        self.assertEqual(clash(boxes[1:], [(3, 1), (6, 1), (8, 1)]), (0, 2))
        self.assertEqual(clash([Box(3)], [(7, 2)]), (0, 0))

    def test_many_boxes(self):
        boxes = [Box(GREAT, 0, None, at + 1, at + 1) for at in range(40)]
        sizes = [box(7) for box in boxes]
        self.assertIsNone(clash(boxes, sizes))
        sizes[39] = boxes[39]((7 * GREAT + 1, GREAT))
        self.assertEqual(clash(boxes, sizes), (0, 39))


class WrongArgumentsTest(unittest.TestCase):
    def fails(self, error, function, *args):
        with self.subTest(function=function.__name__, args=args):
            with self.assertRaises(error) as caught:
                function(*args)
            self.assertIs(caught.exception.__class__, error)

    def test_wrong_boxes(self):
        for boxes in WRONG_BOXES:
            for function in (share, spare, level_range):
                self.fails(InvalidBoxes, function, boxes, 3)
                self.fails(InvalidBoxes, function, boxes, -1)
            for index, number in itertools.product((0, -1, None), (1, -1, None)):
                self.fails(InvalidBoxes, widths_with, boxes, index, number)
            self.fails(InvalidBoxes, clash, boxes, [(1, 1)])
            self.fails(InvalidBoxes, clash, boxes, None)

    def test_wrong_widths(self):
        for width in WRONG_WIDTHS:
            for function in (share, spare, level_range):
                self.fails(InvalidWidth, function, EXAMPLE, width)
                self.fails(InvalidBoxes, function, [], width)

    def test_wrong_indexes_and_numbers(self):
        for index in wrong_indexes(3):
            self.fails(InvalidIndex, widths_with, EXAMPLE, index, 3)
            self.fails(InvalidIndex, widths_with, EXAMPLE, index, -1)
            self.fails(InvalidBoxes, widths_with, None, index, True)
        for number in WRONG_NUMBERS:
            self.fails(InvalidNumber, widths_with, EXAMPLE, 2, number)
            self.fails(InvalidIndex, widths_with, EXAMPLE, 3, number)

    def test_wrong_shares(self):
        for many in (1, 3):
            for wrong in wrong_shares(many):
                self.fails(InvalidShares, clash, EXAMPLE[:many], wrong)
                self.fails(InvalidBoxes, clash, EXAMPLE[:many] + [None], wrong)

    def test_limits_are_allowed(self):
        for width in (0, (0, 1), (1, 10 ** 99), 10 ** 99):
            self.assertEqual(len(share(EXAMPLE, width)), 3)
        self.assertEqual(widths_with(EXAMPLE, 0, 0), None)
        self.assertEqual(len(share(EXAMPLE * 13 + [Box(1)], 10 ** 99)), 40)
        self.assertEqual(clash([Box(0)], [(0, 1)]), None)


class RowsTest(unittest.TestCase):
    """What point 7 leads to (promise 9)."""

    def test_some_boxes_alone_share_their_sum_likewise(self):
        source = random.Random(14)
        for boxes in small_rows(100, 15) + great_rows(6, 16):
            for width in some_widths(boxes, source):
                found = share(boxes, pair(width))
                chosen = [at for at in range(len(boxes)) if source.randint(0, 1)] or [0]
                alone = [boxes[at] for at in chosen]
                sizes = [found[at] for at in chosen]
                self.assertEqual(share(alone, pair(sum(fraction(size) for size in sizes))), sizes)

    def test_no_box_loses_when_the_width_grows(self):
        source = random.Random(17)
        for boxes in small_rows(100, 18) + great_rows(6, 19):
            table = [sizes_of(boxes, pair(width)) for width in sorted(some_widths(boxes, source))]
            for before, behind in itertools.pairwise(table):
                self.assertTrue(all(one <= two for one, two in zip(before, behind)))

    def test_the_sequence_does_not_matter(self):
        source = random.Random(20)
        for boxes in small_rows(100, 21) + great_rows(6, 22):
            places = list(range(len(boxes)))
            source.shuffle(places)
            for width in some_widths(boxes, source):
                found = share(boxes, pair(width))
                self.assertEqual(share([boxes[at] for at in places], pair(width)), [found[at] for at in places])

    def test_bounds_meet_the_widths(self):
        for boxes in small_rows(100, 23):
            self.assertEqual(sum(sizes_of(boxes, 0)), least_width(boxes))
            greatest = greatest_width(boxes)
            if greatest is not None:
                self.assertEqual(sum(sizes_of(boxes, 10 ** 60)), greatest)


if __name__ == "__main__":
    unittest.main()
