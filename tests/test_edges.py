"""Lines of integers, and pixel edges, that pixels and counts are found with."""

import random
import unittest
from fractions import Fraction

from boxrows.curves import Curve
from boxrows.edges import cut, first_split, line_at, line_sum, moved, stretches
from tests.rows import fraction, pair


def any_line(source, top=40):
    return (source.randint(0, top), source.randint(0, top), source.randint(1, 30))


def near_line(source, line):
    """A line that is little else."""
    many = source.randint(1, 4)
    a, b, m = line
    return (max(0, a * many + source.choice([-1, 0, 0, 1])), max(0, b * many + source.randint(-1, 1)), m * many)


def slow_split(one, two, top):
    return next((x for x in range(top) if line_at(one, x) != line_at(two, x)), None)


class LinesTest(unittest.TestCase):
    def test_sums(self):
        source = random.Random(901)
        for _ in range(3000):
            line, many = any_line(source), source.randint(0, 40)
            self.assertEqual(line_sum(line, many), sum(line_at(line, x) for x in range(many)))
            self.assertEqual(line_at(moved(line, 7), many), line_at(line, many + 7))
        self.assertEqual(line_sum((1, 0, 1), 10 ** 99), 10 ** 99 * (10 ** 99 - 1) // 2)
        self.assertEqual(line_sum((1, 0, 3), 3 * 10 ** 60), sum(3 * k for k in (0,)) + 3 * (10 ** 60 * (10 ** 60 - 1) // 2))

    def test_first_split(self):
        source = random.Random(902)
        for _ in range(8000):
            one = any_line(source)
            two = near_line(source, one) if source.random() < 0.7 else any_line(source)
            found = slow_split(one, two, 3000)
            self.assertEqual(first_split(one, two, None), found, (one, two))
            last = source.randint(0, source.choice([5, 40, 3000]))
            self.assertEqual(first_split(one, two, last), None if found is None or found > last else found, (one, two, last))
            if found is not None:
                self.assertEqual(first_split(one, two, found), found)

    def test_first_split_far_away(self):
        source = random.Random(903)
        for _ in range(300):
            m, n = source.randint(10 ** 60, 10 ** 61), source.randint(10 ** 60, 10 ** 61)
            slope = Fraction(source.randint(1, 10 ** 9), source.randint(1, 10 ** 9))
            one = (int(slope * m), source.randint(0, m), m)
            two = (int(slope * n), one[1] * n // m, n)
            x = first_split(one, two, None)
            if x is not None:
                self.assertNotEqual(line_at(one, x), line_at(two, x))
                # Up to there the sums are the same, as one of these lines does not fall below the other one.
                if (Fraction(one[0], m) - Fraction(two[0], n)) * (Fraction(one[1], m) - Fraction(two[1], n)) >= 0:
                    self.assertEqual(line_sum(one, x), line_sum(two, x))
        self.assertIsNone(first_split((10 ** 40 + 1, 0, 10 ** 40), (1, 0, 1), 10 ** 40 - 1))
        self.assertIsNone(first_split((7 * 10 ** 50, 3, 10 ** 51), (7, 0, 10), None))
        self.assertEqual(first_split((10 ** 40 + 1, 0, 10 ** 40), (1, 0, 1), None), 10 ** 40)
        self.assertEqual(first_split((10 ** 40 - 1, 10 ** 40 - 1, 10 ** 40), (1, 0, 1), None), 10 ** 40)


class StretchesTest(unittest.TestCase):
    def test_stretches(self):
        source = random.Random(904)
        for _ in range(60):
            curves = []
            for _ in range(2):
                width, value, points = Fraction(0), Fraction(source.randint(0, 9), source.randint(1, 3)), []
                for _ in range(source.randint(1, 5)):
                    points.append((pair(width), pair(value)))
                    width += Fraction(source.randint(1, 20), source.randint(1, 5))
                    value += Fraction(source.randint(0, 9), source.randint(1, 5))
                curves.append(Curve(points, pair(Fraction(source.randint(0, 3), 3))))
            found = stretches(*curves)
            self.assertEqual([found[0].first, found[-1].last], [0, None])
            self.assertTrue(all(one.last + 1 == two.first for one, two in zip(found, found[1:])))
            for stretch in found + cut(found, 3, 17) + cut(found, 5, None):
                last = stretch.first + 30 if stretch.last is None else stretch.last
                for width in range(stretch.first, last + 1):
                    for line, curve in zip((stretch.one, stretch.two), curves):
                        edge = (fraction(curve(width)) + Fraction(1, 2)).__floor__()
                        self.assertEqual(line_at(line, width - stretch.first), edge)
            inside = cut(found, 3, 17)
            self.assertEqual([inside[0].first, inside[-1].last, sum(part.many() for part in inside)], [3, 17, 15])
            self.assertEqual(cut(found, 5, None)[-1].last, None)


if __name__ == "__main__":
    unittest.main()
