"""Rounds (promises 10 to 14 and 26; section 4 of the interface)."""

import copy
import itertools
import random
import unittest
from fractions import Fraction

from boxrows import rounds as module
from boxrows.boxes import Box
from boxrows.errors import InvalidBoxes, InvalidNumber, InvalidWidth
from boxrows.rounds import hard_row, is_rounds, rounds
from boxrows.shares import share
from tests.rows import (
    EXAMPLE, any_row, fraction, great_rows, numbers, pair, play_rounds, small_rows, some_of, some_widths,
)
from tests.wrong import WRONG_BOXES, WRONG_NUMBERS, WRONG_WIDTHS

GREAT = 10 ** 30
THREE = [Box(0, most=9, grow=1), Box(0, most=10, grow=1), Box(0, grow=1)]


def rows_and_widths(seed, small=120, great=8):
    source = random.Random(seed)
    for boxes in small_rows(small, seed) + great_rows(great, seed):
        for width in some_widths(boxes, source):
            yield boxes, width


def subsets(values):
    return [list(some) for many in range(len(values) + 1) for some in itertools.combinations(values, many)]


class RoundsTest(unittest.TestCase):
    def test_by_hand(self):
        rows = [
            (THREE, 30, [[], [0], [1], [2]]),
            (THREE, 40, [[], [0, 1], [2]]),
            (THREE, 0, [[], [0, 1, 2]]),
            (THREE, (57, 2), [[], [0], [1, 2]]),
            (THREE, 27, [[], [0, 1, 2]]),
            ([Box(5)], 3, [[0]]),
            ([Box(5), Box(4)], 30, [[0, 1]]),
            ([Box(5, grow=1)], 3, [[0]]),
            ([Box(5, shrink=1)], 3, [[], [0]]),
            ([Box(5, shrink=1)], 5, [[0]]),
            ([Box(9, most=4, grow=1), Box(1, grow=1)], 6, [[0], [1]]),
            ([Box(9, most=4, shrink=1), Box(1, shrink=1)], (9, 2), [[], [0], [1]]),
            ([Box(9, most=4, shrink=1), Box(1, shrink=1)], 4, [[], [0, 1]]),
            ([Box(1, least=4, shrink=1), Box(6, shrink=1)], 9, [[0], [1]]),
            ([Box(1, least=4, grow=1), Box(6, grow=1)], 11, [[], [0], [1]]),
            ([Box(4, most=4, grow=1), Box(1, grow=1)], 6, [[], [0], [1]]),
            ([Box(4, least=4, shrink=1), Box(9, shrink=1)], 6, [[], [0], [1]]),
            ([Box(4, least=3, shrink=1), Box(9, least=2, shrink=1)], 1, [[], [0], [1]]),
            ([Box(4, most=5, grow=1), Box(9, most=12, grow=1)], 90, [[], [0, 1]]),
        ]
        for boxes, width, found in rows:
            self.assertEqual(rounds(boxes, width), found)
            self.assertTrue(is_rounds(boxes, width, found))

    def test_a_sum_of_0_freezes_all(self):
        # At the width 20 one share lies as much below a least width as another one above a greatest width.
        boxes = [Box(0, 12, None, 1), Box(0, 0, 8, 1)]
        self.assertEqual(rounds(boxes, 20), [[], [0, 1]])
        self.assertEqual(rounds(boxes, 19), [[], [0], [1]])
        self.assertEqual(rounds(boxes, 21), [[], [1], [0]])

    def test_as_the_document_plays_them(self):
        most = 0
        for boxes, width in rows_and_widths(31):
            before = [numbers(box) for box in boxes]
            found = rounds(boxes, pair(width))
            played, sizes = play_rounds(boxes, width)
            self.assertEqual(found, played)
            self.assertEqual([fraction(size) for size in share(boxes, pair(width))], sizes)
            self.assertEqual([numbers(box) for box in boxes], before)
            if width.denominator == 1:
                self.assertEqual(rounds(boxes, int(width)), found)
            most = max(most, len(found))
        self.assertGreater(most, 4)

    def test_forty_boxes(self):
        boxes = [Box(0, most=at + 1, grow=1) for at in range(40)]
        found = rounds(boxes, 820)
        self.assertEqual(found, play_rounds(boxes, 820)[0])
        self.assertEqual(sorted(sum(found, [])), list(range(40)))
        self.assertEqual(rounds([Box(1)] * 40, 40), [list(range(40))])

    def test_each_list_is_new(self):
        one, two = rounds(THREE, 30), rounds(THREE, 30)
        for each in one:
            each.append(7)
        one.append([9])
        self.assertEqual(two, [[], [0], [1], [2]])
        self.assertEqual(rounds(THREE, 30), two)

    def test_great_widths(self):
        self.assertEqual(rounds(THREE, 10 ** 99), [[], [0, 1], [2]])
        self.assertEqual(rounds(THREE, (10 ** 99, 10 ** 99 - 1)), [[], [0, 1, 2]])

    def test_defined_in_their_file(self):
        for name in ("rounds", "is_rounds", "hard_row"):
            self.assertEqual(getattr(module, name).__module__, "boxrows.rounds")


class IsRoundsTest(unittest.TestCase):
    def all_valid(self, boxes, width):
        """All valid rounds, found by trying each choice in each round."""
        first = play_rounds(boxes, width)[0][0]
        ways, done = [[first]], []
        while ways:
            way = ways.pop()
            left = iter(way[1:])
            may = []

            class Stop(Exception):
                pass

            def choose(found):
                step = next(left, None)
                if step is None:
                    may.extend(found)
                    raise Stop
                return step

            try:
                play_rounds(boxes, width, choose)
            except Stop:
                ways.extend(way + [some] for some in subsets(may) if some)
            else:
                done.append(way)
        return done

    def test_against_all_lists_of_lists(self):
        source = random.Random(32)
        seen = {}
        for _ in range(40):
            boxes = any_row(source, 3)
            for width in some_widths(boxes, source)[::4]:
                valid = self.all_valid(boxes, width)
                some = subsets(range(len(boxes)))
                for many in range(len(boxes) + 3):
                    for value in itertools.product(some, repeat=many):
                        if many > 3 and source.randint(0, 9):
                            continue
                        value = [list(each) for each in value]
                        self.assertIs(is_rounds(boxes, pair(width), value), value in valid)
                for value in valid:
                    self.assertIs(is_rounds(boxes, pair(width), value), True)
                    seen[len(value)] = True
        self.assertLessEqual({1, 2, 3, 4}, set(seen))

    def test_some_of_the_boxes_in_each_round(self):
        source = random.Random(33)
        for boxes, width in rows_and_widths(34):
            played, sizes = play_rounds(boxes, width, some_of(source))
            self.assertIs(is_rounds(boxes, pair(width), played), True)
            self.assertEqual([fraction(size) for size in share(boxes, pair(width))], sizes)
            for value in (played[:-1], played + [[]], played + [[0]], played + [played[-1]], [[]] + played):
                self.assertIs(is_rounds(boxes, pair(width), value), False)
            for at in range(len(played)):
                self.assertIs(is_rounds(boxes, pair(width), played[:at] + played[at + 1:]), False)
                if len(played[at]) > 1:
                    turned = played[:at] + [played[at][::-1]] + played[at + 1:]
                    self.assertIs(is_rounds(boxes, pair(width), turned), False)

    def test_by_hand(self):
        rows = [
            ([[], [1], [0], [2]], True),
            ([[], [0], [1], [2]], True),
            ([[], [0, 1], [2]], True),
            ([[], [1, 0], [2]], False),
            ([[], [0, 0], [1], [2]], False),
            ([[], [2], [0, 1]], False),
            ([[], [0, 1, 2]], False),
            ([[], [0, 1]], False),
            ([[], [0, 1], []], False),
            ([[], [0], [], [1], [2]], False),
            ([[], [0, 1], [2], []], False),
            ([[0, 1], [2]], False),
            ([[]], False),
            ([], False),
        ]
        for value, found in rows:
            self.assertIs(is_rounds(THREE, 40, value), found)
        self.assertIs(is_rounds([Box(5)], 40, [[0]]), True)
        self.assertIs(is_rounds([Box(5)], 40, [[], [0]]), False)
        self.assertIs(is_rounds([Box(5)], 40, [[0], []]), False)
        self.assertIs(is_rounds([Box(5)], 40, [[0], [0]]), False)

    def test_a_sum_of_0_can_freeze_some(self):
        boxes = [Box(0, 12, None, 1), Box(0, 0, 8, 1)]
        for value in ([[], [0, 1]], [[], [0], [1]], [[], [1], [0]]):
            self.assertIs(is_rounds(boxes, 20, value), True)
        for value in ([[], [0]], [[], [1, 0]], [[], [0], [0, 1]], [[0], [1]]):
            self.assertIs(is_rounds(boxes, 20, value), False)


class AnyValueTest(unittest.TestCase):
    def values(self):
        circle = []
        circle.append(circle)
        deep = [0]
        for _ in range(20):
            deep = [deep]
        found = [None, True, False, 0, 1, "", "[[], [0], [1], [2]]", b"", 1.5, (), {}, set(), object(), Box, Box(1), circle,
                 deep, {0: [], 1: [0]}, ([], [0], [1], [2]), iter([[], [0], [1], [2]]), [None], [[None]], [(), [0], [1], [2]]]
        items = [True, False, -1, -2, -3, 3, 10 ** 99, -(10 ** 99), None, "0", b"0", 0.0, 1.0, Fraction(0), (0, 1), [[0]], {}]
        for item in items:
            found += [[[], [item], [1], [2]], [[], [0, item], [2]], [[item], [0], [1], [2]], [[], [0], [1], [2, item]],
                      [[], [item, 1], [2]], [[], [0], [1], [2], item], [item, [0], [1], [2]], [[], item, [1], [2]]]
        found.append([[], (0,), [1], [2]])
        found.append([[], {0: 1}, [1], [2]])
        found.append([[], {0}, [1], [2]])
        found.append([[], [0], [1], [2]] * 50)
        found.append([[]] * 200)
        found.append([list(range(200))])
        return found

    def test_other_values(self):
        for value in self.values():
            for width in (30, 31):
                self.assertIs(is_rounds(THREE, width, value), False, repr(value))

    def test_the_value_does_not_change(self):
        for value in ([[], [0], [1], [2]], [[], [2], [1]], [[], [True]], [[], [1, 0]], [3, [4]], [[], [0, 1], [2], [7]]):
            before = copy.deepcopy(value)
            is_rounds(THREE, 40, value)
            self.assertEqual(repr(value), repr(before))

    def test_true_is_no_index(self):
        boxes = [Box(0, grow=1), Box(1)]
        self.assertTrue(is_rounds(boxes, 9, [[1], [0]]))
        self.assertFalse(is_rounds(boxes, 9, [[True], [0]]))
        self.assertFalse(is_rounds(boxes, 9, [[1], [False]]))


class HardRowTest(unittest.TestCase):
    def test_as_many_rounds_as_boxes(self):
        for number in range(1, 41):
            found = hard_row(number)
            self.assertIs(found.__class__, tuple)
            boxes, whole = found
            self.assertIs(boxes.__class__, list)
            self.assertIs(whole.__class__, int)
            self.assertGreaterEqual(whole, 0)
            self.assertEqual(len(boxes), number)
            for box in boxes:
                self.assertEqual(Box(*numbers(box)), box)
            self.assertEqual(len(play_rounds(boxes, whole)[0]), number + 1)
            self.assertEqual(len(rounds(boxes, whole)), number + 1)
            self.assertEqual(hard_row(number), found)

    def test_the_list_is_new(self):
        boxes, _ = hard_row(3)
        boxes.clear()
        self.assertEqual(len(hard_row(3)[0]), 3)

    def test_wrong_numbers(self):
        for number in WRONG_NUMBERS + [0, 41, 42, 10 ** 99]:
            with self.subTest(number=number):
                with self.assertRaises(InvalidNumber) as caught:
                    hard_row(number)
                self.assertIs(caught.exception.__class__, InvalidNumber)


class WrongArgumentsTest(unittest.TestCase):
    def fails(self, error, function, *args):
        with self.subTest(function=function.__name__, args=args):
            with self.assertRaises(error) as caught:
                function(*args)
            self.assertIs(caught.exception.__class__, error)

    def test_wrong_boxes(self):
        for boxes in WRONG_BOXES:
            for width in (3, -1, None):
                self.fails(InvalidBoxes, rounds, boxes, width)
                for value in ([[]], None):
                    self.fails(InvalidBoxes, is_rounds, boxes, width, value)

    def test_wrong_widths(self):
        for width in WRONG_WIDTHS:
            self.fails(InvalidWidth, rounds, EXAMPLE, width)
            for value in ([[], [0], [1], [2]], None, [[True]]):
                self.fails(InvalidWidth, is_rounds, EXAMPLE, width, value)
            self.fails(InvalidBoxes, rounds, [], width)
            self.fails(InvalidBoxes, is_rounds, [None], width, 3)


class SoManyTimesTest(unittest.TestCase):
    """What the rounds lead to (promise 26)."""

    def times(self, box, many, grow=1, shrink=1):
        most = None if box.most is None else box.most * many
        return Box(box.wish * many, box.least * many, most, box.grow * grow, box.shrink * shrink)

    def test_all_widths_so_many_times(self):
        source = random.Random(35)
        for boxes in small_rows(80, 36):
            for many in (2, 7, 10 ** 25):
                more = [self.times(box, many) for box in boxes]
                for width in some_widths(boxes, source):
                    sizes = [pair(fraction(size) * many) for size in share(boxes, pair(width))]
                    self.assertEqual(share(more, pair(width * many)), sizes)
                    self.assertEqual(rounds(more, pair(width * many)), rounds(boxes, pair(width)))

    def test_weights_of_one_side_so_many_times(self):
        source = random.Random(37)
        for boxes in small_rows(80, 38):
            for grow, shrink in ((5, 1), (1, 3), (10 ** 5, 1), (1, 10 ** 5)):
                more = [self.times(box, 1, grow, shrink) for box in boxes]
                for width in some_widths(boxes, source):
                    self.assertEqual(share(more, pair(width)), share(boxes, pair(width)))


if __name__ == "__main__":
    unittest.main()
