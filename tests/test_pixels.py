"""Pixels (promises 31 to 33; section 9 of the interface)."""

import random
import unittest

from boxrows import pixels as module
from boxrows.errors import InvalidLayout, InvalidName, InvalidWidth, OtherNames
from boxrows.layouts import Layout
from boxrows.pixels import first_pixel_difference, pixel_size, pixels, same_pixels
from boxrows.places import places
from tests.pairs import any_tree, text_of, variants
from tests.trees import EXAMPLE, GREAT, HEAVY, SlowLayout, any_layout, row_widths
from tests.wrong import NO_FRACTIONS, NO_NUMBERS, WRONG_NUMBERS, EqualToAll

NO_LAYOUTS = NO_NUMBERS + NO_FRACTIONS + [EXAMPLE, Layout, [Layout("a:1")], EqualToAll()]
NO_NAMES = NO_NUMBERS + ["", "A", "q", "ab", "a ", "x[", "[", "aa", 0, ("a",), ["a"], b"a"]
SEEN = 45


def wholes_for(source, tree):
    """Whole widths beside the bounds of a layout, and others."""
    own, least, most = row_widths(tree)
    edges = [least, own, 3 * own + 20 if most is None else most]
    found = [edge + more for edge in edges for more in (-1, 0, 1)] + [0, 10 ** 99 + source.randint(0, 10 ** 9)]
    return [width for width in found + [source.randint(0, edges[2] + 5) for _ in range(4)] if width >= 0]


def slow_first(one, two, top=SEEN):
    for width in range(top + 1):
        if sorted(one.pixels(width, True)) != sorted(two.pixels(width, True)):
            return width
    return None


class PixelsTest(unittest.TestCase):
    def test_against_the_slow_way(self):
        source = random.Random(911)
        for at in range(70):
            tree, text = any_layout(source, at % 4, 3, *((GREAT, HEAVY) if at % 5 == 0 else (12, 3)))
            layout, slow = Layout(text), SlowLayout(tree)
            for width in wholes_for(source, tree):
                wanted = slow.pixels(width)
                self.assertEqual(pixels(layout, width), wanted)
                self.assertEqual([pixel_size(layout, name, width) for name, _, _ in wanted], [size for _, _, size in wanted])

    def test_halves_are_rounded_up(self):
        two = Layout("a:0+1 b:0+1")
        self.assertEqual([pixels(two, width) for width in (1, 2, 3)],
                         [[("a", 0, 1), ("b", 1, 0)], [("a", 0, 1), ("b", 1, 1)], [("a", 0, 2), ("b", 2, 1)]])
        four = Layout("a:0+1 b:0+1 c:0+1 d:0+1")
        self.assertEqual([[pixel_size(four, name, width) for name in "abcd"] for width in (1, 2, 3, 5)],
                         [[0, 1, 0, 0], [1, 0, 1, 0], [1, 1, 0, 1], [1, 2, 1, 1]])
        three = Layout("a:0+1 b:0+1 c:0+1")
        self.assertEqual(pixels(three, 10 ** 99), [("a", 0, 10 ** 99 // 3), ("b", 10 ** 99 // 3, 10 ** 99 // 3 + 1),
                                                   ("c", 2 * (10 ** 99 // 3) + 1, 10 ** 99 // 3)])

    def test_rows_and_stacks(self):
        layout = Layout("a:1/1+1 x[ b:0+1 y{ c:0+1 | [ d:0+1 e:0+2 ]+1 }+2 ]+1")
        self.assertEqual(pixels(layout, 6), [("a", 0, 4), ("x", 4, 2), ("b", 4, 0), ("y", 4, 2), ("c", 4, 2), ("d", 4, 1), ("e", 5, 1)])
        self.assertEqual([pixel_size(layout, name, 6) for name in "axbycde"], [4, 2, 0, 2, 2, 1, 1])

    def test_below_the_least_and_above_the_greatest_width(self):
        layout = Layout("a:3/2-4+1~1 b:3/3-3 c:2/1-5+2~3")
        self.assertEqual(pixels(layout, 0), [("a", 0, 2), ("b", 2, 3), ("c", 5, 1)])
        self.assertEqual(pixels(layout, 6), pixels(layout, 0))
        self.assertEqual(pixels(layout, 7), [("a", 0, 3), ("b", 3, 3), ("c", 6, 1)])
        self.assertEqual(pixels(layout, 12), [("a", 0, 4), ("b", 4, 3), ("c", 7, 5)])
        self.assertEqual(pixels(layout, 10 ** 99), pixels(layout, 12))

    def test_lists_are_new(self):
        layout = Layout(EXAMPLE)
        one = pixels(layout, 26)
        one.clear()
        self.assertEqual(len(pixels(layout, 26)), 5)

    def test_defined_in_their_file(self):
        for name in ("pixels", "pixel_size", "same_pixels", "first_pixel_difference"):
            self.assertEqual(getattr(module, name).__module__, "boxrows.pixels")


class DifferencesTest(unittest.TestCase):
    def check(self, one, two):
        first, second = Layout(text_of(one)), Layout(text_of(two))
        slow, slow2 = SlowLayout(one), SlowLayout(two)
        found, wanted = first_pixel_difference(first, second), slow_first(slow, slow2)
        self.assertEqual(first_pixel_difference(second, first), found)
        self.assertEqual([same_pixels(first, second), same_pixels(second, first)], [found is None] * 2)
        self.assertEqual(None if found is None or found > SEEN else found, wanted)
        if found is None:
            for width in (10 ** 6, 10 ** 12 + 1, 10 ** 40):
                self.assertEqual(sorted(slow.pixels(width, True)), sorted(slow2.pixels(width, True)))
        else:
            self.assertNotEqual(sorted(slow.pixels(found, True)), sorted(slow2.pixels(found, True)))
        return found

    def test_against_the_slow_way(self):
        source = random.Random(921)
        found = []
        for _ in range(24):
            tree = any_tree(source, 2, 3, 9, source.choice([3, 9]))
            for other in variants(source, tree) + [tree]:
                found.append(self.check(tree, other))
        self.assertGreater(sum(whole is None for whole in found), 30)
        self.assertGreater(len(set(found)), 8)

    def test_great_layouts(self):
        source = random.Random(922)
        far = 0
        for _ in range(40):
            tree = any_tree(source, 2, 3, GREAT, HEAVY)
            for other in variants(source, tree):
                one, two = Layout(text_of(tree)), Layout(text_of(other))
                slow, slow2 = SlowLayout(tree), SlowLayout(other)
                found = first_pixel_difference(one, two)
                self.assertEqual(found, first_pixel_difference(two, one))
                if found:
                    far += found > 10 ** 6
                    for width in (found - 1, found // 2, found - 2, found - found // 7 - 1, source.randint(0, found - 1)):
                        width = max(width, 0)
                        self.assertEqual(sorted(slow.pixels(width, True)), sorted(slow2.pixels(width, True)))
                    self.assertNotEqual(sorted(slow.pixels(found, True)), sorted(slow2.pixels(found, True)))
        self.assertGreater(far, 5)

    def test_by_hand(self):
        rows = [
            ("a:0+1 b:0+2", "a:0+1 b:0+1", 1),
            ("a:0+1 b:0+2", "a:0+2 b:0+4", None),
            ("a:0+1 b:0+2", "b:0+2 a:0+1", 1),
            ("a:1+1 b:1", "b:1 a:1+1", 0),
            ("a:0+1 b:0", "b:0 a:0+1", 1),
            ("a:0 b:0", "b:0 a:0", None),
            ("x[ a:0+1 ]+1 b:0+1", "x[ b:0+1 ]+1 a:0+1", 1),
            ("x[ a:0+1 b:0+2 ]+3 c:0+1", "a:0+1 x[ b:0+2 c:0+1 ]+3", None),
            ("a:0+1 b:0+1 c:0+1", "x[ a:0+1 b:0+1 ]+2 c:0+1", None),
            ("a:0-5+1 b:0+1", "a:0+1 b:0+1", 11),
            ("a:0+999999 b:0+1", "a:0+1 b:0", 500001),
            ("a:0+1000000 b:0+999999", "a:0+1 b:0+1", 2000000),
            ("a:0+1000000 b:0+1", "a:0+1000000 b:0+2", 250001),
        ]
        for one, two, found in rows:
            with self.subTest(one=one, two=two):
                self.assertEqual(first_pixel_difference(Layout(one), Layout(two)), found)
                self.assertEqual(first_pixel_difference(Layout(two), Layout(one)), found)
                self.assertIs(same_pixels(Layout(one), Layout(two)), found is None)

    def test_sizes_differ_but_pixels_do_not(self):
        # Sizes up to 3 / 7 and 2 / 7 are one pixel or none alike.
        one, two = Layout("a:0-1+5 b:1"), Layout("a:0-1+5 b:1-1")
        self.assertTrue(same_pixels(one, two))
        heavy, light = Layout("b:0-3+3 a:0-3+4 c:0-30+9999"), Layout("b:0-3+4 a:0-3+3 c:0-30+9999")
        self.assertFalse(same_pixels(heavy, light))
        self.assertGreater(first_pixel_difference(heavy, light), 30)

    def test_lines_that_would_differ_behind_their_end(self):
        # The ends of a are near w / 2 and near w up to w = 1, and 1 from w = 2 on.
        one, two = Layout("a:0-1+1 b:0-1+1"), Layout("a:0-1+1000000 b:0-1+1")
        self.assertEqual([first_pixel_difference(one, two), first_pixel_difference(two, one)], [None, None])

    def test_behind_very_many_widths(self):
        far = 10 ** 30
        one, two = Layout(f"a:0-{far}+1 b:0+1"), Layout("a:0+1 b:0+1")
        self.assertEqual(first_pixel_difference(one, two), 2 * far + 1)
        one, two = Layout(f"a:{far}/{far} b:0+999999 c:0+1"), Layout(f"a:{far}/{far} b:0+1 c:0")
        self.assertEqual(first_pixel_difference(one, two), far + 500001)
        deep, other = "a:0+1 b:0+1", "a:0+1 b:0-1+1"
        for at in range(7):
            deep, other = f"[ {deep} ]+1 {'c' * (at + 1)}:0+999999", f"[ {other} ]+1 {'c' * (at + 1)}:0+999999"
        # At u * 10 ** 42, b begins at u / 2, or, from u = 2 on, at u - 1.
        found = first_pixel_difference(Layout(deep), Layout(other))
        self.assertEqual(found, 25 * 10 ** 41)
        self.assertEqual(first_pixel_difference(Layout(other), Layout(deep)), found)


class WrongArgumentsTest(unittest.TestCase):
    def setUp(self):
        self.layout = Layout("a:10+1 x[ b:4/2+1~1 c:6-8+2~1 ]+1~2 y{ d:0+1 | [ e:1 ] }")

    def fails(self, error, function, *args):
        with self.subTest(function=function.__name__, args=args):
            with self.assertRaises(error) as caught:
                function(*args)
            self.assertIs(caught.exception.__class__, error)

    def test_wrong_layouts(self):
        for wrong in NO_LAYOUTS:
            for whole in (3, -1, None):
                self.fails(InvalidLayout, pixels, wrong, whole)
                self.fails(InvalidLayout, pixel_size, wrong, "a", whole)
                self.fails(InvalidLayout, pixel_size, wrong, "q", whole)
            for function in (same_pixels, first_pixel_difference):
                self.fails(InvalidLayout, function, wrong, self.layout)
                self.fails(InvalidLayout, function, self.layout, wrong)
                self.fails(InvalidLayout, function, wrong, Layout("q:1"))

    def test_wrong_names(self):
        for name in NO_NAMES:
            for whole in (3, -1, None):
                self.fails(InvalidName, pixel_size, self.layout, name, whole)

    def test_wrong_widths(self):
        for whole in WRONG_NUMBERS:
            self.fails(InvalidWidth, pixels, self.layout, whole)
            for name in ("a", "x", "b", "y", "e"):
                self.fails(InvalidWidth, pixel_size, self.layout, name, whole)

    def test_other_names(self):
        for text in ("a:1", "a:1 b:1 c:1 d:1", "a:1 b:1 c:1 d:1 e:1 f:1", "a:1 b:1 c:1 d:1 f:1", "a:1 b:1 c:1 d:1 x[ y:1 ]"):
            for function in (same_pixels, first_pixel_difference):
                self.fails(OtherNames, function, self.layout, Layout(text))
                self.fails(OtherNames, function, Layout(text), self.layout)
        for text in ("e:1 d:1 c:1 b:1 a:1", "x[ e:1 d:1 ] y[ c:1 b:1 ] z[ a:1 ]", "y{ e:1 d:1 | x[ c:1 b:1 a:1 ] }", "a:1 b:1 c:1 d:1 [ e:1 ]"):
            for one, two in ((self.layout, Layout(text)), (Layout(text), self.layout)):
                self.assertEqual([first_pixel_difference(one, two), same_pixels(one, two)], [0, False])

    def test_arguments_do_not_change(self):
        text, before = self.layout.text, places(self.layout, (53, 2))
        other = Layout("a:1 b:1 c:1 d:1 e:1")
        for _ in range(2):
            pixels(self.layout, 26)
            pixel_size(self.layout, "c", 26)
            first_pixel_difference(self.layout, other)
            same_pixels(other, self.layout)
        self.assertEqual([self.layout.text, places(self.layout, (53, 2)), other.text], [text, before, "a:1 b:1 c:1 d:1 e:1"])


if __name__ == "__main__":
    unittest.main()
