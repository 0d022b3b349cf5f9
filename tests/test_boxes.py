"""Boxes and the widths of rows (promises 1, 2 and 3; section 2 of the interface)."""

import itertools
import random
import unittest
from fractions import Fraction

from boxrows.boxes import Box, greatest_width, least_width, own_width
from boxrows.errors import InvalidBox, InvalidBoxes, InvalidLevel, RowError
from tests.rows import EXAMPLE, any_box, bounds, far_level, great_rows, numbers, pair, slow_size, slow_sum, small_rows
from tests.wrong import NO_FRACTIONS, NO_NUMBERS, WRONG_BOXES, EqualToAll

NAMES = ["wish", "least", "most", "grow", "shrink"]
GREAT = 10 ** 30
HEAVY = 10 ** 6


class NumbersTest(unittest.TestCase):
    def test_left_out_numbers(self):
        self.assertEqual(numbers(Box(7)), (7, 0, None, 0, 0))
        self.assertEqual(numbers(Box(0)), (0, 0, None, 0, 0))

    def test_limits_are_allowed(self):
        for five in [(GREAT, GREAT, GREAT, HEAVY, HEAVY), (0, 0, 0, 0, 0), (GREAT, 0, None, HEAVY, 0), (0, GREAT, None, 0, 1)]:
            self.assertEqual(numbers(Box(*five)), five)

    def test_by_position_and_by_name(self):
        five = (10, 4, 20, 2, 1)
        for many in range(6):
            box = Box(*five[:many], **dict(zip(NAMES[many:], five[many:])))
            self.assertEqual(numbers(box), five)
            self.assertEqual(box, Box(*five))
        for left_out in itertools.product([False, True], repeat=4):
            given = {name: value for name, value, out in zip(NAMES[1:], five[1:], left_out) if not out}
            full = {"least": 0, "most": None, "grow": 0, "shrink": 0, **given}
            self.assertEqual(numbers(Box(10, **given)), (10, *full.values()))

    def test_own_is_the_limited_wish(self):
        rows = [(10, 4, 20, 10), (3, 5, None, 5), (3, 5, 9, 5), (30, 5, 9, 9), (5, 5, 5, 5), (0, 0, 0, 0), (4, 5, 5, 5), (6, 5, 5, 5)]
        rows += [(GREAT, 0, GREAT - 1, GREAT - 1), (GREAT - 1, GREAT, None, GREAT), (1, 0, 0, 0), (5, 0, None, 5)]
        for wish, least, most, own in rows:
            self.assertEqual(Box(wish, least, most).own, own)
            self.assertEqual(Box(wish, least, most, 5, 6).own, own)

    def test_the_class_has_what_the_interface_lists(self):
        for name in NAMES + ["own", "__init__", "__call__", "__eq__"]:
            self.assertIn(name, vars(Box))
        for function in (least_width, own_width, greatest_width, Box):
            self.assertEqual(function.__module__, "boxrows.boxes")


class LevelTest(unittest.TestCase):
    def test_sizes_by_hand(self):
        box = Box(10, least=4, most=20, grow=2, shrink=1)
        rows = [(0, (10, 1)), (3, (16, 1)), (5, (20, 1)), (6, (20, 1)), (-6, (4, 1)), (-7, (4, 1)), ((7, 2), (17, 1))]
        rows += [((-1, 2), (19, 2)), ((1, 3), (32, 3)), ((-8, 1), (4, 1)), ((0, 1), (10, 1)), ((49, 10), (99, 5))]
        for level, size in rows:
            self.assertEqual(box(level), size)

    def test_wishes_outside_of_the_bounds(self):
        low = Box(2, least=5, most=9, grow=1, shrink=1)
        self.assertEqual([low(t) for t in (-9, 0, 2, 3, 4, 7, 8)], [(n, 1) for n in (5, 5, 5, 5, 6, 9, 9)])
        high = Box(12, least=5, most=9, grow=1, shrink=2)
        self.assertEqual([high(t) for t in (9, 0, -1, (-3, 2), -2, (-7, 2), -4)], [(n, 1) for n in (9, 9, 9, 9, 8, 5, 5)])

    def test_equal_bounds_and_no_weights(self):
        self.assertEqual([Box(3, 5, 5, 7, 7)(t) for t in (-10, 0, 10)], [(5, 1)] * 3)
        self.assertEqual([Box(3)(t) for t in (-(10 ** 40), 0, 10 ** 40)], [(3, 1)] * 3)
        self.assertEqual([Box(0, shrink=5)(t) for t in (-1, 0, 1)], [(0, 1)] * 3)

    def test_great_numbers(self):
        box = Box(GREAT, 1, None, HEAVY, HEAVY)
        self.assertEqual(box(10 ** 40), (GREAT + 10 ** 46, 1))
        self.assertEqual(box((1, 10 ** 40)), (10 ** 64 + 1, 10 ** 34))
        self.assertEqual(box((-1, 10 ** 40)), (10 ** 64 - 1, 10 ** 34))
        self.assertEqual(box(-(10 ** 40)), (1, 1))
        self.assertEqual(box((-(10 ** 24), 1)), (1, 1))

    def test_against_the_words_of_the_document(self):
        source = random.Random(3)
        for top, heaviest in ((9, 3), (GREAT, HEAVY)):
            for _ in range(150):
                box = any_box(source, top, heaviest)
                edges = [Fraction(bound - box.wish, weight) for bound in (box.least, box.most or 0)
                         for weight in (box.grow, box.shrink) if weight]
                for edge in [Fraction(0)] + edges:
                    for level in (edge, edge + Fraction(1, 10 ** 9), edge - Fraction(1, 10 ** 9), edge + 1):
                        self.assertEqual(box(pair(level)), pair(slow_size(box, level)))
                for level in (-3, -1, 0, 1, 2, 10 ** 40, -(10 ** 40)):
                    self.assertEqual(box(level), pair(slow_size(box, level)))

    def test_wrong_levels(self):
        box = Box(10, 4, 20, 2, 1)
        for level in NO_NUMBERS + NO_FRACTIONS:
            with self.subTest(level=level):
                with self.assertRaises(InvalidLevel) as caught:
                    box(level)
                self.assertIs(caught.exception.__class__, InvalidLevel)
                self.assertIsInstance(caught.exception, RowError)
        self.assertEqual(numbers(box), (10, 4, 20, 2, 1))


class EqualTest(unittest.TestCase):
    def test_equal_exactly_if_all_numbers_are(self):
        some = [(wish, least, most, grow, shrink) for wish in (0, 3) for least in (0, 2) for most in (None, 2, 4)
                for grow in (0, 1) for shrink in (0, 1)]
        for one, two in itertools.product(some, some):
            self.assertEqual(Box(*one) == Box(*two), one == two)
            self.assertEqual(Box(*one) != Box(*two), one != two)
        self.assertNotEqual(Box(3, most=0), Box(3))

    def test_a_box_equals_no_other_value(self):
        box = Box(3)
        for value in NO_NUMBERS[:-1] + [3, (3, 0, None, 0, 0), [3, 0, None, 0, 0], Box, EqualToAll()]:
            self.assertIs(box == value, False)
            self.assertIs(box != value, True)


class WrongBoxTest(unittest.TestCase):
    def fails(self, *args, **more):
        with self.assertRaises(InvalidBox) as caught:
            Box(*args, **more)
        self.assertIs(caught.exception.__class__, InvalidBox)
        self.assertIsInstance(caught.exception, RowError)
        self.assertIsInstance(caught.exception, ValueError)

    def wrong_values(self, name):
        beyond = {"wish": GREAT, "least": GREAT, "most": GREAT, "grow": HEAVY, "shrink": HEAVY}[name] + 1
        values = NO_NUMBERS + NO_FRACTIONS + [-1, beyond, 10 ** 90, -(10 ** 90), (1, 1)]
        return [value for value in values if not (name == "most" and value is None)]

    def test_one_wrong_number(self):
        good = [10, 4, None, 2, 1]
        for at, name in enumerate(NAMES):
            for value in self.wrong_values(name):
                with self.subTest(name=name, value=value):
                    five = good[:at] + [value] + good[at + 1:]
                    self.fails(*five)
                    self.fails(**dict(zip(NAMES, five)))
                    self.fails(*five[:at + 1])
                    if at:
                        self.fails(10, **{name: value})

    def test_most_below_least(self):
        self.fails(1, 2, 1)
        self.fails(1, 1, 0)
        self.fails(1, most=GREAT - 1, least=GREAT)

    def test_several_wrong_numbers(self):
        for at, other in itertools.combinations(range(5), 2):
            five = [10, 4, 20, 2, 1]
            five[at], five[other] = "x", -1
            self.fails(*five)
            self.fails(**dict(zip(NAMES, five)))
        self.fails(True, True, True, True, True)
        self.fails(None, None, None, None, None)


class WidthsTest(unittest.TestCase):
    def test_by_hand(self):
        rows = [
            ([Box(10)], 10, 10, 10),
            ([Box(0, grow=1)], 0, 0, None),
            ([Box(10, shrink=1)], 0, 10, 10),
            ([Box(10, 4, 20, 0, 1)], 4, 10, 10),
            ([Box(10, 4, 20, 1, 0)], 10, 10, 20),
            ([Box(3, 5, 7, 1, 1), Box(9, 5, 7, 1, 1)], 10, 12, 14),
            ([Box(3, 5, 7), Box(9, 5, 7)], 12, 12, 12),
            ([Box(1, most=0, grow=1), Box(0, 0, 0, 1, 1)], 0, 0, 0),
            ([Box(2, 5, None, 1, 1), Box(1, most=3, grow=1)], 6, 6, None),
            ([Box(GREAT, 1, None, 1, 1)] * 40, 40, 40 * GREAT, None),
            ([Box(GREAT, 1, GREAT, 1, HEAVY)] * 40, 40, 40 * GREAT, 40 * GREAT),
        ]
        for boxes, least, own, greatest in rows:
            self.assertEqual([least_width(boxes), own_width(boxes), greatest_width(boxes)], [least, own, greatest])

    def test_as_sums_at_levels(self):
        for boxes in small_rows() + great_rows():
            before = [numbers(box) for box in boxes]
            least, greatest = bounds(boxes)
            self.assertEqual((least_width(boxes), greatest_width(boxes)), (least, greatest))
            self.assertEqual(own_width(boxes), slow_sum(boxes, 0))
            self.assertEqual(own_width(boxes[::-1]), own_width(boxes))
            self.assertEqual(greatest_width(boxes[::-1]), greatest)
            self.assertEqual(least_width(boxes[::-1]), sum(box(-far_level(boxes))[0] for box in boxes))
            self.assertEqual([numbers(box) for box in boxes], before)
            for value in (least_width(boxes), own_width(boxes)):
                self.assertIs(value.__class__, int)

    def test_wrong_boxes(self):
        for function in (least_width, own_width, greatest_width):
            for boxes in WRONG_BOXES:
                with self.subTest(function=function.__name__, boxes=boxes):
                    with self.assertRaises(InvalidBoxes) as caught:
                        function(boxes)
                    self.assertIs(caught.exception.__class__, InvalidBoxes)

    def test_the_greatest_number_of_boxes(self):
        self.assertEqual(own_width(EXAMPLE * 13 + [Box(1)]), 261)


if __name__ == "__main__":
    unittest.main()
