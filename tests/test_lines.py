"""Lines (promises 38 to 41; section 11 of the interface)."""

import collections
import random
import unittest
from fractions import Fraction

from boxrows import lines as module
from boxrows.boxes import Box
from boxrows.errors import InvalidBoxes, InvalidGap, InvalidIndex, InvalidNumber, InvalidTimes, InvalidWidth
from boxrows.layouts import Layout, parts_of
from boxrows.lines import count_lines, least_for, line_at, line_kinds, line_of, line_shares
from tests.rows import any_box, fraction, numbers, pair, rounds_share
from tests.wrong import NO_FRACTIONS, NO_NUMBERS, WRONG_BOXES, WRONG_NUMBERS, wrong_indexes

GREAT = 10 ** 30
WRONG_BOUNDED = WRONG_NUMBERS + [GREAT + 1, 10 ** 99]


def slow_lines(boxes, gap, times, whole):
    """The lines as lists of the numbers of their boxes."""
    found, used = [], 0
    for at in range(len(boxes) * times):
        own = boxes[at % len(boxes)].own
        if found and used + gap + own <= whole:
            found[-1].append(at)
            used += gap + own
        else:
            found.append([at])
            used = own
    return found


def slow_shares(boxes, gap, whole, line):
    """For each box of the pattern its size in a line, by the rounds of point 8."""
    row = [boxes[at % len(boxes)] for at in line]
    sizes = [None] * len(boxes)
    for at, size in zip(line, rounds_share(row, whole - gap * (len(row) - 1))):
        if sizes[at % len(boxes)] not in (None, pair(size)):
            raise AssertionError("one box, two sizes")
        sizes[at % len(boxes)] = pair(size)
    return sizes


def any_pattern(source, most=5, top=6):
    boxes = [any_box(source, top) for _ in range(source.randint(1, most))]
    return boxes, source.choice([0, 0, 1, 2, 5]), source.randint(1, 9), source.randint(0, 30)


class LinesTest(unittest.TestCase):
    def check(self, boxes, gap, times, whole, source):
        lines = slow_lines(boxes, gap, times, whole)
        self.assertEqual(count_lines(boxes, gap, times, whole), len(lines))
        for index, line in enumerate(lines):
            self.assertEqual(line_at(boxes, gap, times, whole, index), (line[0], len(line)))
            if source.random() < 0.3:
                self.assertEqual(line_shares(boxes, gap, times, whole, index), slow_shares(boxes, gap, whole, line))
            for place, box in enumerate(line):
                self.assertEqual(line_of(boxes, gap, times, whole, box), (index, place))
        kinds = collections.Counter((line[0] % len(boxes), len(line)) for line in lines)
        self.assertEqual(line_kinds(boxes, gap, times, whole), sorted((at, many, k) for (at, many), k in kinds.items()))

    def test_against_the_slow_way(self):
        source = random.Random(1001)
        for _ in range(500):
            self.check(*any_pattern(source), source)

    def test_boxes_without_an_own_width(self):
        source = random.Random(1002)
        for _ in range(150):
            boxes = [Box(source.choice([0, 0, 0, 1, 7]), grow=source.randint(0, 2), shrink=1) for _ in range(source.randint(1, 6))]
            self.check(boxes, source.choice([0, 0, 1]), source.randint(1, 5), source.randint(0, 9), source)
        none = [Box(0), Box(5, most=0), Box(0, grow=1)]
        self.assertEqual(count_lines(none, 0, GREAT, 0), 1)
        self.assertEqual(line_at(none, 0, GREAT, 0, 0), (0, 3 * GREAT))
        self.assertEqual(line_of(none, 0, GREAT, 0, 3 * GREAT - 1), (0, 3 * GREAT - 1))
        self.assertEqual(line_kinds(none, 0, GREAT, 7), [(0, 3 * GREAT, 1)])
        self.assertEqual(line_shares(none, 0, GREAT, 7, 0), [(0, 1), (0, 1), (7, GREAT)])
        self.assertEqual([least_for(none, 0, GREAT, 1), least_for(none, 1, GREAT, 1)], [0, 3 * GREAT - 1])
        self.assertEqual(count_lines(none, 1, GREAT, 0), 3 * GREAT)
        self.assertEqual(count_lines(none, 1, GREAT, 1), (3 * GREAT + 1) // 2)

    def test_by_hand(self):
        boxes = [Box(3, grow=1), Box(4), Box(2)]
        self.assertEqual([line_at(boxes, 1, 2, 10, index) for index in range(3)], [(0, 2), (2, 2), (4, 2)])
        self.assertEqual([line_of(boxes, 1, 2, 10, index) for index in range(6)], [(0, 0), (0, 1), (1, 0), (1, 1), (2, 0), (2, 1)])
        self.assertEqual([count_lines(boxes, 1, 1, whole) for whole in (0, 3, 7, 8, 10, 11, 10 ** 40)], [3, 3, 2, 2, 2, 1, 1])
        self.assertEqual([line_kinds(boxes, 0, 4, whole) for whole in (0, 9)],
                         [[(0, 1, 4), (1, 1, 4), (2, 1, 4)], [(0, 3, 4)]])
        self.assertEqual(line_kinds(boxes, 0, 4, 10), [(0, 3, 4)])
        self.assertEqual(line_kinds(boxes, 0, 4, 12), [(0, 4, 1), (1, 2, 1), (1, 3, 2)])
        self.assertEqual(line_kinds(boxes, 0, 5, 12), [(0, 4, 1), (1, 2, 1), (1, 3, 3)])
        self.assertEqual(line_shares(boxes, 1, 2, 10, 1), [(7, 1), None, (2, 1)])
        self.assertEqual(line_shares(boxes, 1, 2, 2, 0), [(3, 1), None, None])
        self.assertEqual(line_shares([Box(5, 2, shrink=1), Box(1, grow=1)], 0, 1, 1, 0), [(2, 1), None])

    def test_wider_than_the_line(self):
        wide = [Box(50, 10, 60, 2, 1), Box(1)]
        self.assertEqual([count_lines(wide, 0, 3, whole) for whole in (0, 49, 50, 51)], [6, 6, 6, 3])
        self.assertEqual([line_shares(wide, 9, 3, whole, 0) for whole in (0, 20, 49, 50, 55)],
                         [[(10, 1), None], [(20, 1), None], [(49, 1), None], [(50, 1), None], [(55, 1), None]])
        self.assertEqual(line_shares(wide, 9, 3, 60, 1), [(50, 1), (1, 1)])
        self.assertEqual(line_shares(wide, 9, 3, 62, 2), [(52, 1), (1, 1)])

    def test_the_own_width_is_the_limited_wish(self):
        boxes = [Box(50, most=3), Box(0, least=4), Box(2)]
        self.assertEqual([line_at(boxes, 1, 1, 10, 0), line_at(boxes, 1, 1, 11, 0), line_at(boxes, 1, 1, 7, 0)], [(0, 2), (0, 3), (0, 1)])


class ManyLinesTest(unittest.TestCase):
    def test_very_many_times(self):
        # Far away the lines are those of a small filling, as places come again and again.
        source = random.Random(1011)
        for _ in range(60):
            boxes, gap, _, whole = any_pattern(source, 6)
            if sum(box.own + gap for box in boxes) == 0:
                continue
            many = count_lines(boxes, gap, GREAT, whole)
            self.check_far(boxes, gap, whole, many, source)

    def check_far(self, boxes, gap, whole, many, source):
        last = GREAT * len(boxes) - 1
        self.assertEqual(line_of(boxes, gap, GREAT, whole, last)[0], many - 1)
        for index in [0, many - 1, many // 2, many // 3, source.randint(0, many - 1)]:
            first, length = line_at(boxes, gap, GREAT, whole, index)
            self.assertEqual([line_of(boxes, gap, GREAT, whole, first), line_of(boxes, gap, GREAT, whole, first + length - 1)],
                             [(index, 0), (index, length - 1)])
            owns = [boxes[at % len(boxes)].own for at in range(first, first + length + 1)]
            taken = sum(owns[:length]) + gap * (length - 1)
            self.assertTrue(taken <= whole or length == 1)
            if index < many - 1:
                self.assertGreater(taken + gap + owns[length], whole)
                self.assertEqual(line_at(boxes, gap, GREAT, whole, index + 1)[0], first + length)
                self.assertEqual(line_of(boxes, gap, GREAT, whole, first + length), (index + 1, 0))
            else:
                self.assertEqual(first + length, last + 1)
            line = list(range(first % len(boxes), first % len(boxes) + length))
            self.assertEqual(line_shares(boxes, gap, GREAT, whole, index), slow_shares(boxes, gap, whole, line))
        kinds = line_kinds(boxes, gap, GREAT, whole)
        self.assertEqual([sum(k for _, _, k in kinds), sum(length * k for _, length, k in kinds)], [many, last + 1])
        self.assertEqual(kinds, sorted(kinds))
        self.assertEqual(len({(at, length) for at, length, _ in kinds}), len(kinds))
        self.assertTrue(all(k >= 1 for _, _, k in kinds))

    def test_forty_boxes(self):
        source = random.Random(1012)
        for _ in range(5):
            boxes = [any_box(source, GREAT, 10 ** 6) for _ in range(40)]
            gap = source.choice([0, GREAT, source.randint(0, GREAT)])
            for whole in (0, 3 * GREAT, 20 * GREAT, 10 ** 45 + 7):
                many = count_lines(boxes, gap, GREAT, whole)
                for index in (0, many - 1, many // 2):
                    first, length = line_at(boxes, gap, GREAT, whole, index)
                    self.assertEqual(line_of(boxes, gap, GREAT, whole, first + length - 1), (index, length - 1))
                    if length < 200:
                        line = [(first + at) % 40 for at in range(length)]
                        self.assertEqual(line_shares(boxes, gap, GREAT, whole, index), slow_shares(boxes, gap, whole, line))
                kinds = line_kinds(boxes, gap, GREAT, whole)
                self.assertEqual(sum(k for _, _, k in kinds), many)
                self.assertEqual(sum(length * k for _, length, k in kinds), 40 * GREAT)

    def test_lines_of_very_many_patterns(self):
        boxes = [Box(1, grow=1), Box(2, most=3, grow=2), Box(0)]
        whole = 10 ** 40
        first, length = line_at(boxes, 1, GREAT, whole, 0)
        self.assertEqual([first, length], [0, 3 * GREAT])
        # 6 * GREAT - 1 is their own width with gaps; the second box stops at 3, the first one takes the rest.
        rest = whole - (3 * GREAT - 1) - 3 * GREAT
        self.assertEqual(line_shares(boxes, 1, GREAT, whole, 0), [pair(Fraction(rest, GREAT)), (3, 1), (0, 1)])
        boxes, whole = boxes[:2] + [Box(9)], 15 * 10 ** 20 + 12
        first, length = line_at(boxes, 1, GREAT, whole, 0)
        self.assertEqual([first, length], [0, 3 * 10 ** 20 + 2])
        sizes = line_shares(boxes, 1, GREAT, whole, 0)
        self.assertEqual((10 ** 20 + 1) * (fraction(sizes[0]) + fraction(sizes[1])) + 9 * 10 ** 20, whole - (length - 1))
        self.assertEqual(fraction(sizes[1]) - 2, 2 * (fraction(sizes[0]) - 1))
        self.assertGreater(fraction(sizes[0]), 1)
        self.assertEqual(sizes[2], (9, 1))

    def test_greatest_values(self):
        greatest = [Box(GREAT, GREAT, GREAT, 10 ** 6, 10 ** 6)] * 40
        self.assertEqual(count_lines(greatest, GREAT, GREAT, 3 * GREAT - 1), 40 * GREAT)
        self.assertEqual(count_lines(greatest, GREAT, GREAT, 3 * GREAT), 20 * GREAT)
        self.assertEqual(count_lines(greatest, GREAT, GREAT, 10 ** 99), 1)
        self.assertEqual(least_for(greatest, GREAT, GREAT, 1), 80 * GREAT ** 2 - GREAT)
        self.assertEqual(line_of(greatest, GREAT, GREAT, 3 * GREAT, 40 * GREAT - 1), (20 * GREAT - 1, 1))
        self.assertEqual(line_shares(greatest, GREAT, GREAT, 10 ** 99, 0), [(GREAT, 1)] * 40)
        self.assertEqual(line_kinds(greatest, GREAT, GREAT, 3 * GREAT), [(at, 2, GREAT) for at in range(0, 40, 2)])
        self.assertEqual(line_kinds(greatest[:39], GREAT, GREAT, 3 * GREAT),
                         [(0, 2, GREAT // 2)] + [(at, 2, GREAT // 2) for at in range(1, 39)])

    def test_boxes_of_layouts(self):
        boxes = parts_of(Layout(f"x[ a:{GREAT} b:{GREAT} ]+1 c:1"), None)
        self.assertEqual(line_at(boxes, 0, 3, 2 * GREAT + 1, 0), (0, 2))
        self.assertEqual(line_shares(boxes, 0, 3, 2 * GREAT + 5, 1), [(2 * GREAT, 1), (1, 1)])


class LeastForTest(unittest.TestCase):
    def test_against_the_slow_way(self):
        source = random.Random(1021)
        for _ in range(60):
            boxes, gap, times, _ = any_pattern(source)
            times = min(times, 4)
            top = times * sum(box.own + gap for box in boxes)
            counts = [len(slow_lines(boxes, gap, times, whole)) for whole in range(top + 1)]
            self.assertEqual(counts, sorted(counts, reverse=True))
            for number in range(1, len(boxes) * times + 3):
                found = least_for(boxes, gap, times, number)
                self.assertEqual(found, next(whole for whole in range(top + 1) if counts[whole] <= number))

    def test_great_patterns(self):
        source = random.Random(1022)
        for _ in range(12):
            boxes = [any_box(source, GREAT, 10 ** 6) for _ in range(source.randint(1, 40))]
            gap, times = source.randint(0, GREAT), source.randint(1, GREAT)
            for number in (1, 2, 7, times, 3 * times, source.randint(1, 40 * GREAT)):
                found = least_for(boxes, gap, times, number)
                self.assertLessEqual(count_lines(boxes, gap, times, found), number)
                if found > 0:
                    self.assertGreater(count_lines(boxes, gap, times, found - 1), number)
            for number in (len(boxes) * times, len(boxes) * times + 1, 10 ** 99):
                self.assertEqual(least_for(boxes, gap, times, number), 0)

    def test_by_hand(self):
        boxes = [Box(3), Box(4), Box(2)]
        self.assertEqual([least_for(boxes, 1, 2, number) for number in range(1, 8)], [23, 11, 8, 7, 6, 0, 0])


class WrongArgumentsTest(unittest.TestCase):
    def setUp(self):
        self.boxes = [Box(3, grow=1), Box(4, 1, 9, 2, 1), Box(2)]

    def fails(self, error, function, *args):
        with self.subTest(function=function.__name__, args=args):
            with self.assertRaises(error) as caught:
                function(*args)
            self.assertIs(caught.exception.__class__, error)

    def all_fail(self, error, boxes, gap, times, wholes=(10, -1)):
        for whole in wholes:
            self.fails(error, count_lines, boxes, gap, times, whole)
            self.fails(error, line_kinds, boxes, gap, times, whole)
            for index in (0, -1):
                for function in (line_of, line_at, line_shares):
                    self.fails(error, function, boxes, gap, times, whole, index)

    def test_wrong_boxes(self):
        for boxes in WRONG_BOXES:
            self.all_fail(InvalidBoxes, boxes, 1, 2)
            self.all_fail(InvalidBoxes, boxes, -1, 0)
            self.fails(InvalidBoxes, least_for, boxes, 1, 2, 3)
            self.fails(InvalidBoxes, least_for, boxes, -1, 0, 0)

    def test_wrong_gaps(self):
        for gap in WRONG_BOUNDED:
            self.all_fail(InvalidGap, self.boxes, gap, 2)
            self.all_fail(InvalidGap, self.boxes, gap, 0)
            self.fails(InvalidGap, least_for, self.boxes, gap, 0, 0)
        self.assertEqual([count_lines(self.boxes, gap, 2, 23) for gap in (0, 1, GREAT)], [1, 1, 6])

    def test_wrong_times(self):
        for times in WRONG_BOUNDED + [0]:
            self.all_fail(InvalidTimes, self.boxes, 1, times)
            self.fails(InvalidTimes, least_for, self.boxes, 1, times, 3)
            self.fails(InvalidTimes, least_for, self.boxes, 1, times, 0)
        self.assertEqual([count_lines(self.boxes, 1, times, 11) for times in (1, 2, GREAT)], [1, 2, GREAT])

    def test_wrong_widths(self):
        for whole in NO_NUMBERS + NO_FRACTIONS + [-1, (1, 1), (1, 2), -(10 ** 40)]:
            self.all_fail(InvalidWidth, self.boxes, 1, 2, (whole,))

    def test_wrong_numbers(self):
        for number in WRONG_NUMBERS + [0]:
            self.fails(InvalidNumber, least_for, self.boxes, 1, 2, number)

    def test_wrong_indexes(self):
        for index in wrong_indexes(6):
            self.fails(InvalidIndex, line_of, self.boxes, 1, 2, 10, index)
        for index in wrong_indexes(3):
            self.fails(InvalidIndex, line_at, self.boxes, 1, 2, 10, index)
            self.fails(InvalidIndex, line_shares, self.boxes, 1, 2, 10, index)
        many = count_lines(self.boxes, 1, GREAT, 10)
        for index in (many, many + 1):
            self.fails(InvalidIndex, line_at, self.boxes, 1, GREAT, 10, index)
        self.fails(InvalidIndex, line_of, self.boxes, 1, GREAT, 10, 3 * GREAT)
        self.assertEqual(line_of(self.boxes, 1, GREAT, 10, 3 * GREAT - 1)[0], many - 1)

    def test_arguments_stay(self):
        before = [numbers(box) for box in self.boxes]
        for _ in range(2):
            count_lines(self.boxes, 1, 2, 10)
            line_shares(self.boxes, 1, 2, 10, 1)
            line_kinds(self.boxes, 1, 2, 10).clear()
            line_shares(self.boxes, 1, 2, 10, 1).clear()
            least_for(self.boxes, 1, 2, 2)
        self.assertEqual([numbers(box) for box in self.boxes], before)
        self.assertEqual([len(line_kinds(self.boxes, 1, 2, 10)), len(line_shares(self.boxes, 1, 2, 10, 1))], [3, 3])

    def test_defined_in_their_file(self):
        for name in ("count_lines", "line_of", "line_at", "line_shares", "line_kinds", "least_for"):
            self.assertEqual(getattr(module, name).__module__, "boxrows.lines")


if __name__ == "__main__":
    unittest.main()
