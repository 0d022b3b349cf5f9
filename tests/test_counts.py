"""Counts (promises 34 to 36; section 10 of the interface)."""

import random
import unittest

from boxrows import counts as module
from boxrows.counts import count_widths, first_from, nth_width, total_pixels
from boxrows.errors import InvalidIndex, InvalidLayout, InvalidName, InvalidNumber, InvalidWidth, NoWidth
from boxrows.layouts import Layout
from boxrows.pixels import pixel_size
from boxrows.places import places
from tests.trees import EXAMPLE, GREAT, HEAVY, SlowLayout, any_layout
from tests.wrong import NO_FRACTIONS, NO_NUMBERS, WRONG_NUMBERS, EqualToAll

NO_LAYOUTS = NO_NUMBERS + NO_FRACTIONS + [EXAMPLE, Layout, [Layout("a:1")], EqualToAll()]
NO_NAMES = NO_NUMBERS + ["", "A", "q", "ab", "a ", "x[", "[", "aa", 0, ("a",), ["a"], b"a"]
# All widths of the small layouts bend below it; behind it pixel sizes come again.
SEEN = 90


def sizes_of(layout, top=SEEN):
    """For each name the pixel sizes at the whole widths from 0 to top, by the slow way."""
    table = [layout.pixels(width) for width in range(top + 1)]
    return {name: [row[at][2] for row in table] for at, (name, _, _) in enumerate(table[0])}


def nth_or_none(layout, name, number, index):
    try:
        return nth_width(layout, name, number, index)
    except NoWidth:
        return None


class CountsTest(unittest.TestCase):
    def check(self, layout, name, sizes, source):
        numbers = sorted(set(sizes) | {0, max(sizes) + 1, source.randint(0, max(sizes))})
        for number in source.sample(numbers, min(len(numbers), 6)):
            low = source.randint(0, SEEN)
            high = source.randint(low, SEEN)
            self.assertEqual(count_widths(layout, name, number, low, high), sizes[low:high + 1].count(number))
            self.assertEqual(count_widths(layout, name, number, 0, SEEN), sizes.count(number))
            self.assertEqual(count_widths(layout, name, number, low, low), int(sizes[low] == number))
            widths = [width for width, size in enumerate(sizes) if size == number]
            for index in source.sample(range(len(widths)), min(4, len(widths))):
                self.assertEqual(nth_width(layout, name, number, index), widths[index])
            behind = nth_or_none(layout, name, number, len(widths))
            if behind is not None:
                self.assertGreater(behind, SEEN)
                self.assertEqual(pixel_size(layout, name, behind), number)
            first = first_from(layout, name, number)
            if first is not None and first <= SEEN:
                self.assertGreaterEqual(min(sizes[first:]), number)
                self.assertTrue(first == 0 or sizes[first - 1] < number)
            elif first is not None:
                self.assertEqual([pixel_size(layout, name, first - 1) < number, pixel_size(layout, name, first) >= number], [True, True])
        low = source.randint(0, SEEN)
        high = source.randint(low, SEEN)
        self.assertEqual(total_pixels(layout, name, low, high), sum(sizes[low:high + 1]))
        self.assertEqual(total_pixels(layout, name, high, high), sizes[high])

    def test_against_the_slow_way(self):
        source = random.Random(941)
        for at in range(36):
            tree, text = any_layout(source, at % 4, 3)
            found = sizes_of(SlowLayout(tree))
            for name in source.sample(sorted(found), min(len(found), 5)):
                self.check(Layout(text), name, found[name], source)

    def test_great_layouts(self):
        source = random.Random(942)
        for _ in range(25):
            _, text = any_layout(source, 2, 3, GREAT, HEAVY)
            layout = Layout(text)
            for name in source.sample(layout.names, min(3, len(layout.names))):
                top = source.choice([10 ** 99, 10 ** 33, 10 ** 31])
                width = source.randint(0, top)
                number = pixel_size(layout, name, width)
                found = count_widths(layout, name, number, 0, top)
                self.assertEqual(found, count_widths(layout, name, number, 0, width - 1) + 1
                                 + count_widths(layout, name, number, width + 1, top))
                index = count_widths(layout, name, number, 0, width) - 1
                self.assertEqual(nth_width(layout, name, number, index), width)
                first = first_from(layout, name, number)
                if first:
                    self.assertLess(pixel_size(layout, name, first - 1), number)
                if first is not None:
                    for whole in (first, first + 1, first + source.randint(0, 10 ** 31)):
                        self.assertGreaterEqual(pixel_size(layout, name, whole), number)
                self.assertEqual(total_pixels(layout, name, 0, width - 1) + number, total_pixels(layout, name, 0, width))

    def test_by_hand(self):
        two = Layout("a:0+1 b:0+2")
        self.assertEqual([count_widths(two, "a", number, 0, 10 ** 60) for number in (0, 1, 7, 10 ** 58)], [2, 3, 3, 3])
        self.assertEqual([count_widths(two, "b", number, 0, 10 ** 60) for number in (0, 1, 2, 3, 4)], [1, 2, 1, 2, 1])
        self.assertEqual([nth_width(two, "b", 3, 0), nth_width(two, "b", 3, 1), nth_width(two, "b", 0, 0)], [4, 5, 0])
        self.assertEqual([first_from(two, "b", number) for number in (0, 1, 2, 3, 4, 10 ** 60)],
                         [0, 1, 3, 4, 6, (3 * 10 ** 60 - 2) // 2 + 1])
        for number, index in ((3, 2), (0, 1), (1, 10 ** 99)):
            with self.assertRaises(NoWidth):
                nth_width(two, "b", number, index)
        self.assertEqual(total_pixels(two, "a", 0, 3 * 10 ** 60 - 1) + total_pixels(two, "b", 0, 3 * 10 ** 60 - 1),
                         3 * 10 ** 60 * (3 * 10 ** 60 - 1) // 2)
        self.assertEqual([count_widths(two, "a", 0, 0, 0), count_widths(two, "a", 0, 2, 2), total_pixels(two, "b", 5, 5)], [1, 0, 3])

    def test_sizes_that_stay(self):
        fixed = Layout("a:7 b:3+1")
        self.assertEqual([count_widths(fixed, "a", 7, 5, 10 ** 99), count_widths(fixed, "a", 6, 0, 10 ** 99)], [10 ** 99 - 4, 0])
        self.assertEqual([nth_width(fixed, "a", 7, index) for index in (0, 5, 10 ** 99)], [0, 5, 10 ** 99])
        self.assertEqual([first_from(fixed, "a", number) for number in (0, 7, 8)], [0, 0, None])
        self.assertEqual(total_pixels(fixed, "a", 3, 10 ** 99), 7 * (10 ** 99 - 2))
        for number in (6, 8, 0, 10 ** 60):
            with self.assertRaises(NoWidth):
                nth_width(fixed, "a", number, 0)
        late = Layout("a:7-9+1 b:3")
        self.assertEqual([nth_width(late, "a", 9, index) for index in (0, 10 ** 99)], [12, 12 + 10 ** 99])
        self.assertEqual([nth_width(late, "a", 7, 10), nth_width(late, "a", 8, 0)], [10, 11])
        self.assertEqual([first_from(late, "a", number) for number in (7, 8, 9, 10)], [0, 11, 12, None])
        with self.assertRaises(NoWidth):
            nth_width(late, "a", 7, 11)

    def test_two_numbers_that_come_again_for_ever(self):
        # x keeps the width 3, so b and c have 3 / 2 each, and x begins where a third of the rest ends.
        odd = Layout("a:0+1 x{ b:0+1 c:0+1 | e:3 } d:0+2")
        sizes = [pixel_size(odd, "b", width) for width in range(3, 3 + 60)]
        self.assertEqual(set(sizes), {1, 2})
        self.assertEqual(sizes[:30], sizes[30:])
        ones, twos = [3 + at for at in range(60) if sizes[at] == 1], [3 + at for at in range(60) if sizes[at] == 2]
        self.assertEqual(min(ones + twos), 3)
        far = 10 ** 99
        for number, widths in ((1, ones), (2, twos)):
            each = sizes[:30].count(number)
            early = [width for width in range(3) if pixel_size(odd, "b", width) == number]
            found = early + widths
            self.assertEqual([nth_width(odd, "b", number, index) for index in range(len(found))], found)
            self.assertEqual(nth_width(odd, "b", number, len(early) + far * each), widths[0] + far * 30)
            self.assertEqual(count_widths(odd, "b", number, 3, 3 + 30 * far - 1), far * each)
        self.assertEqual([first_from(odd, "b", number) for number in (0, 1, 2, 3)], [0, 0, None, None])
        self.assertEqual(total_pixels(odd, "b", 3, 3 + 30 * far - 1), far * sum(sizes[:30]))
        with self.assertRaises(NoWidth):
            nth_width(odd, "b", 0, 0)
        with self.assertRaises(NoWidth):
            nth_width(odd, "b", 3, 0)

    def test_never_less_from_a_width_behind_a_return(self):
        # The pixel size of b goes up and down on its way, as its begin moves, too.
        layout = Layout("a:0+5 b:0+3 c:0+4")
        sizes = [pixel_size(layout, "b", width) for width in range(400)]
        self.assertNotEqual(sizes, sorted(sizes))
        for number in range(1, 60):
            first = first_from(layout, "b", number)
            self.assertEqual(first, max(width for width in range(400) if sizes[width] < number) + 1)
            self.assertGreaterEqual(min(sizes[first:]), number)

    def test_great_numbers(self):
        layout = Layout(f"a:0+{HEAVY} b:{GREAT}-{GREAT}+1~1 c:0+{HEAVY - 1}")
        number = 10 ** 60
        first = first_from(layout, "c", number)
        self.assertEqual([pixel_size(layout, "c", first - 1) < number, pixel_size(layout, "c", first) >= number], [True, True])
        low, high = first - 10 ** 3, first + 10 ** 3
        widths = [width for width in range(low, high) if pixel_size(layout, "c", width) == number]
        self.assertEqual(count_widths(layout, "c", number, 0, 10 ** 99), len(widths))
        self.assertEqual([nth_width(layout, "c", number, index) for index in range(len(widths))], widths)
        self.assertEqual(total_pixels(layout, "b", 0, 10 ** 99) - total_pixels(layout, "b", 0, 10 ** 60), GREAT * (10 ** 99 - 10 ** 60))
        self.assertEqual(count_widths(layout, "b", GREAT, GREAT, 10 ** 99), 10 ** 99 - GREAT + 1)
        self.assertEqual(count_widths(layout, "b", 10 ** 29, 0, 10 ** 99), 1)

    def test_defined_in_their_file(self):
        for name in ("count_widths", "nth_width", "first_from", "total_pixels"):
            self.assertEqual(getattr(module, name).__module__, "boxrows.counts")


class WrongArgumentsTest(unittest.TestCase):
    def setUp(self):
        self.layout = Layout("a:10+1 x[ b:4/2+1~1 c:6-8+2~1 ]+1~2 y{ d:0+1 | [ e:1 ] }")

    def fails(self, error, function, *args):
        with self.subTest(function=function.__name__, args=args):
            with self.assertRaises(error) as caught:
                function(*args)
            self.assertIs(caught.exception.__class__, error)

    def test_wrong_layouts_and_names(self):
        cases = [(wrong, name, InvalidLayout) for wrong in NO_LAYOUTS for name in ("a", None)]
        cases += [(self.layout, name, InvalidName) for name in NO_NAMES]
        for layout, name, error in cases:
            for number, low, high in ((0, 0, 9), (-1, -1, -1), (None, None, None)):
                self.fails(error, count_widths, layout, name, number, low, high)
                self.fails(error, nth_width, layout, name, number, low)
                self.fails(error, first_from, layout, name, number)
                self.fails(error, total_pixels, layout, name, low, high)

    def test_wrong_numbers(self):
        for number in WRONG_NUMBERS:
            for name in ("a", "x", "e"):
                self.fails(InvalidNumber, count_widths, self.layout, name, number, 0, 9)
                self.fails(InvalidNumber, count_widths, self.layout, name, number, -1, None)
                self.fails(InvalidNumber, nth_width, self.layout, name, number, 0)
                self.fails(InvalidNumber, nth_width, self.layout, name, number, -1)
                self.fails(InvalidNumber, first_from, self.layout, name, number)

    def test_wrong_ranges(self):
        for wrong in WRONG_NUMBERS:
            for other in (0, 10 ** 60, wrong):
                self.fails(InvalidWidth, count_widths, self.layout, "a", 3, wrong, other)
                self.fails(InvalidWidth, total_pixels, self.layout, "a", wrong, other)
                self.fails(InvalidWidth, count_widths, self.layout, "a", 3, other, wrong)
                self.fails(InvalidWidth, total_pixels, self.layout, "a", other, wrong)
        for low, high in ((1, 0), (10 ** 99, 10 ** 99 - 1), (5, 3)):
            self.fails(InvalidWidth, count_widths, self.layout, "a", 3, low, high)
            self.fails(InvalidWidth, total_pixels, self.layout, "a", low, high)

    def test_wrong_indexes(self):
        for index in WRONG_NUMBERS:
            for number in (0, 3, 10, 10 ** 60):
                self.fails(InvalidIndex, nth_width, self.layout, "a", number, index)
        # a has 10 at 22 whole widths at least, never less; then it grows.
        found = count_widths(self.layout, "a", 10, 0, 10 ** 60)
        for index in (found, found + 1, 10 ** 99):
            self.fails(NoWidth, nth_width, self.layout, "a", 10, index)
        self.assertEqual(nth_width(self.layout, "a", 10, found - 1), found - 1)
        self.fails(NoWidth, nth_width, self.layout, "a", 9, 0)

    def test_arguments_do_not_change(self):
        text, before = self.layout.text, places(self.layout, (53, 2))
        for name in self.layout.names:
            one = [count_widths(self.layout, name, 3, 2, 99), first_from(self.layout, name, 3), total_pixels(self.layout, name, 0, 9)]
            two = [count_widths(self.layout, name, 3, 2, 99), first_from(self.layout, name, 3), total_pixels(self.layout, name, 0, 9)]
            self.assertEqual([one, nth_or_none(self.layout, name, 3, 1)], [two, nth_or_none(self.layout, name, 3, 1)])
        self.assertEqual([self.layout.text, places(self.layout, (53, 2))], [text, before])


if __name__ == "__main__":
    unittest.main()
