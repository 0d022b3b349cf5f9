"""Places (promises 24 to 27; section 7 of the interface)."""

import itertools
import random
import unittest
from fractions import Fraction

from boxrows import places as module
from boxrows.curves import Curve
from boxrows.errors import InvalidLayout, InvalidName, InvalidWidth
from boxrows.layouts import Layout, parts_of
from boxrows.places import begin_curve, begin_of, breaks, places, size_curve, size_of, spare_of
from boxrows.shares import share, spare
from tests.rows import bends_of, fraction, pair, parts_of_curve, rounds_share
from tests.trees import EXAMPLE, GREAT, HEAVY, any_layout, as_part, layout_widths, nodes, slow_places
from tests.wrong import NO_FRACTIONS, NO_NUMBERS, WRONG_WIDTHS, EqualToAll

NO_LAYOUTS = NO_NUMBERS + NO_FRACTIONS + [EXAMPLE, Layout, [Layout("a:1")], EqualToAll()]
NO_NAMES = NO_NUMBERS + ["", "A", "q", "ab", "a ", "x[", "[", "a:10+1", "aa", 0, ("a",), ["a"], b"a"]
WITH_WIDTH = [places, spare_of]
WITH_NAME = [size_curve, begin_curve]
WITH_BOTH = [size_of, begin_of]
ALL = WITH_WIDTH + WITH_NAME + WITH_BOTH + [breaks]


def layouts_for(seed, many=60):
    source = random.Random(seed)
    found = [any_layout(source, depth, most) for depth in range(4) for most in (1, 2, 4) for _ in range(many // 12)]
    return found + [any_layout(source, 3, 3, GREAT, HEAVY) for _ in range(6)] + [any_layout(source, 8, 2) for _ in range(4)]


def named(found):
    return [(node.name, pair(begin), pair(size)) for node, begin, size in found if node.name]


class PlacesTest(unittest.TestCase):
    def test_against_the_slow_way(self):
        source = random.Random(71)
        for tree, text in layouts_for(72):
            layout = Layout(text)
            for width in layout_widths(source, tree):
                wanted = named(slow_places(tree, Fraction(0), width))
                found = places(layout, pair(width))
                self.assertEqual(found, wanted)
                self.assertEqual([name for name, _, _ in found], layout.names)
                for name, begin, size in source.sample(wanted, min(len(wanted), 5)):
                    self.assertEqual(size_of(layout, name, pair(width)), size)
                    self.assertEqual(begin_of(layout, name, pair(width)), begin)
                parts = [as_part(node) for node in tree]
                self.assertEqual(fraction(spare_of(layout, pair(width))), width - sum(rounds_share(parts, width)))
                if width.denominator == 1:
                    self.assertEqual(places(layout, int(width)), found)
                    self.assertEqual(spare_of(layout, int(width)), spare_of(layout, pair(width)))
            self.assertEqual(layout, Layout(text))
            self.assertEqual(layout.names, [node.name for node in nodes(tree) if node.name])

    def test_by_hand(self):
        one = Layout("a:2 { b:4 x[ c:2+1 d:2+3 ]+1 | e:1 f:3+1 g:1/1 }+1 h:1+1")
        rows = [
            (11, [("a", 0, 2), ("b", 2, 4), ("x", 6, 4), ("c", 6, 2), ("d", 8, 2), ("e", 2, 1), ("f", 3, 6), ("g", 9, 1),
                  ("h", 10, 1)]),
            (19, [("a", 0, 2), ("b", 2, 4), ("x", 6, 8), ("c", 6, 3), ("d", 9, 5), ("e", 2, 1), ("f", 3, 10), ("g", 13, 1),
                  ("h", 14, 5)]),
            (0, [("a", 0, 2), ("b", 2, 4), ("x", 6, 4), ("c", 6, 2), ("d", 8, 2), ("e", 2, 1), ("f", 3, 6), ("g", 9, 1),
                 ("h", 10, 1)]),
        ]
        for width, found in rows:
            self.assertEqual(places(one, width), [(name, (begin, 1), (size, 1)) for name, begin, size in found])
        self.assertEqual([spare_of(one, width) for width in (0, 11, 12, (21, 2))], [(-11, 1), (0, 1), (0, 1), (-1, 2)])

    def test_eight_brackets_deep(self):
        deep = "a[ b{ c:8~1 | d[ e{ f:6~1 | g[ h{ i:4+1~1 | j[ k:2+1~1 l:0+2 ]+1~1 }+1~1 m:0+1 ]+1~1 }+1~1 ]+1~1 }+1~1 ]+1~1"
        layout = Layout(deep)
        for width in (0, 1, (7, 2), 8, 9, 30, 10 ** 99, (10 ** 99, 7)):
            found = {name: (fraction(begin), fraction(size)) for name, begin, size in places(layout, width)}
            for name in ("a", "b", "d", "e", "g"):
                self.assertEqual(found[name], (0, fraction(width)))
            self.assertEqual(found["m"][1] + found["h"][1], fraction(width))
            self.assertEqual(found["j"], found["h"])
            self.assertEqual(found["k"][1] + found["l"][1], found["h"][1])
        self.assertEqual(size_curve(layout, "h") + size_curve(layout, "m"), size_curve(layout, "a"))

    def test_the_rows_of_a_stack_are_given_its_whole_width(self):
        layout = Layout("y{ a:1 | b:2+1 | c:9~1 d:1/1 | e:3-4+1~1 }+1~1 z:2+1~1")
        for width in (0, 3, 5, 8, 9, (21, 2), 12, 13, 40):
            begin, size = begin_of(layout, "y", width), size_of(layout, "y", width)
            for name, row in (("b", "b:2+1"), ("c", "c:9~1 d:1/1"), ("d", "c:9~1 d:1/1"), ("e", "e:3-4+1~1"), ("a", "a:1")):
                self.assertEqual(size_of(layout, name, width), size_of(Layout(row), name, size))
                inside = fraction(begin_of(Layout(row), name, size))
                self.assertEqual(fraction(begin_of(layout, name, width)), fraction(begin) + inside)

    def test_parts_share_the_size_of_their_row(self):
        source = random.Random(73)
        for tree, text in layouts_for(74, 36):
            layout = Layout(text)
            rows = [(None, tree)] + [(node.name, node.rows[0]) for node in nodes(tree) if len(node.rows) == 1 and node.name]
            for width in layout_widths(source, tree)[::2]:
                found = {name: (begin, size) for name, begin, size in places(layout, pair(width))}
                for name, row in rows:
                    begin, given = ((0, 1), pair(width)) if name is None else found[name]
                    for node, size in zip(row, share(parts_of(layout, name), given)):
                        if node.name:
                            self.assertEqual(found[node.name], (begin, size))
                        begin = pair(fraction(begin) + fraction(size))
                self.assertEqual(spare_of(layout, pair(width)), spare(parts_of(layout, None), pair(width)))

    def test_lists_are_new(self):
        layout = Layout(EXAMPLE)
        for function, arguments in ((places, (26,)), (breaks, ())):
            one, two = function(layout, *arguments), function(layout, *arguments)
            one.clear()
            self.assertEqual(function(layout, *arguments), two)
            self.assertGreater(len(two), 3)

    def test_defined_in_their_file(self):
        for function in ALL:
            self.assertEqual(function.__module__, "boxrows.places")
            self.assertIs(getattr(module, function.__name__), function)


class CurvesTest(unittest.TestCase):
    def check(self, tree, text, source):
        layout = Layout(text)
        sizes = {name: size_curve(layout, name) for name in layout.names}
        begins = {name: begin_curve(layout, name) for name in layout.names}
        edges = set()
        for curve in list(sizes.values()) + list(begins.values()):
            self.assertIsInstance(curve, Curve)
            points, slope = parts_of_curve(curve)
            self.assertEqual(bends_of(points, slope), points)
            edges.update(width for width, _ in points)
        edges = sorted(edges)
        edges = sorted(source.sample(edges, min(len(edges), 8)))
        widths = edges + [(one + two) / 2 for one, two in itertools.pairwise(edges)] + layout_widths(source, tree)
        for width in widths:
            for name, begin, size in named(slow_places(tree, Fraction(0), width)):
                self.assertEqual([begins[name](pair(width)), sizes[name](pair(width))], [begin, size])
        boxes = [node.name for node in nodes(tree) if node.numbers]
        wanted = {width for name in boxes for width, _ in sizes[name].points[1:]}
        found = breaks(layout)
        self.assertEqual(found, [pair(width) for width in sorted(map(fraction, wanted))])
        self.check_breaks(tree, [fraction(width) for width in found], boxes)

    def check_breaks(self, tree, edges, boxes):
        """Between two neighbours all sizes are linear; at each of them one slope changes."""
        ends = [Fraction(0)] + edges + [(edges or [Fraction(0)])[-1] + 10]
        slopes = []
        for low, high in list(itertools.pairwise(ends))[-12:]:
            at = [low, (3 * low + high) / 4, (low + high) / 2, high]
            table = [{node.name: size for node, _, size in slow_places(tree, Fraction(0), width)} for width in at]
            steps = {name: (table[3][name] - table[0][name]) / (high - low) for name in boxes}
            for name in boxes:
                for row, width in zip(table, at):
                    self.assertEqual(row[name], table[0][name] + steps[name] * (width - low))
            slopes.append(steps)
        for one, two in itertools.pairwise(slopes):
            self.assertNotEqual(one, two)

    def test_against_the_slow_way(self):
        source = random.Random(75)
        for tree, text in layouts_for(76, 36):
            self.check(tree, text, source)

    def test_by_hand(self):
        one = Layout("a:0-2+1 b:0+1 x[ c:0-3+2 d:0 ]+1")
        self.assertEqual(size_curve(one, "a"), Curve([((0, 1), (0, 1)), ((6, 1), (2, 1))], (0, 1)))
        self.assertEqual(begin_curve(one, "a"), Curve([((0, 1), (0, 1))], (0, 1)))
        self.assertEqual(begin_curve(one, "b"), size_curve(one, "a"))
        self.assertEqual(begin_curve(one, "x").points, [((0, 1), (0, 1)), ((6, 1), (4, 1)), ((8, 1), (5, 1))])
        self.assertEqual(begin_curve(one, "x").slope, (1, 1))
        self.assertEqual(begin_curve(one, "c"), begin_curve(one, "x"))
        self.assertEqual(size_curve(one, "c"), size_curve(one, "x"))
        self.assertEqual(begin_curve(one, "d")(9), (9, 1))
        self.assertEqual(size_curve(one, "d").points, [((0, 1), (0, 1))])
        self.assertEqual(breaks(one), [(6, 1), (8, 1)])
        self.assertEqual(breaks(Layout("a:5")), [])
        self.assertEqual(breaks(Layout("a:5+1~1")), [])
        self.assertEqual(breaks(Layout("a:5+1")), [(5, 1)])
        self.assertEqual(breaks(Layout("a:1+1 b:1+2~1")), [(1, 1), (2, 1)])

    def test_breaks_by_hand(self):
        self.assertEqual(breaks(Layout("{ x[ a:0-3+1 ]+1 | b:0-9+1 }+1 c:0")), [(3, 1), (9, 1)])
        self.assertEqual(breaks(Layout("x{ a:3 | b:1 }+1 y{ c:3-9 | d:0-6+1~1 }+1~1")), [(6, 1), (9, 1)])
        self.assertEqual(breaks(Layout("[ [ a:0-3+1 ]+1 b:0 ]")), [])
        self.assertEqual(breaks(Layout("x[ a:4 ]~1 b:4~1")), [(4, 1), (8, 1)])

    def test_many_boxes(self):
        source = random.Random(77)
        names = [one + two for one in "abcdefghijk" for two in "abcdefghijk"]
        words, letters = [], iter(names)
        for _ in range(8):
            words += [f"{next(letters)}:{source.randint(0, 9999)}/{at}-{10 ** 5 + 7919 * at}+{at + 1}~{at + 2}" for at in range(15)]
            words.append("[")
        words = words[:-1] + ["]+3~2"] * 7
        layout = Layout(" ".join(words))
        self.assertEqual(len(layout), 120)
        found = breaks(layout)
        self.assertGreater(len(found), 100)
        self.assertEqual(found, sorted(found, key=fraction))
        last = layout.names[-1]
        for width in found[::9] + [0, 10 ** 7]:
            self.assertEqual(size_curve(layout, last)(width), size_of(layout, last, width))
            self.assertEqual(begin_curve(layout, last)(width), begin_of(layout, last, width))


class WrongArgumentsTest(unittest.TestCase):
    def setUp(self):
        self.layout = Layout("a:10+1 x[ b:4/2+1~1 c:6-8+2~1 ]+1~2 y{ d:0+1 | [ e:1 ] }")

    def fails(self, error, function, *args):
        with self.subTest(function=function.__name__, args=args):
            with self.assertRaises(error) as caught:
                function(*args)
            self.assertIs(caught.exception.__class__, error)

    def test_wrong_layouts(self):
        for layout in NO_LAYOUTS:
            self.fails(InvalidLayout, breaks, layout)
            for other in (3, -1, None, "a", ""):
                for function in WITH_WIDTH + WITH_NAME:
                    self.fails(InvalidLayout, function, layout, other)
                for function in WITH_BOTH:
                    self.fails(InvalidLayout, function, layout, "a", other)
                    self.fails(InvalidLayout, function, layout, other, 3)

    def test_wrong_names(self):
        for name in NO_NAMES:
            for function in WITH_NAME:
                self.fails(InvalidName, function, self.layout, name)
            for function in WITH_BOTH:
                for width in (3, -1, None):
                    self.fails(InvalidName, function, self.layout, name, width)

    def test_wrong_widths(self):
        for width in WRONG_WIDTHS:
            for function in WITH_WIDTH:
                self.fails(InvalidWidth, function, self.layout, width)
            for function in WITH_BOTH:
                for name in ("a", "x", "b", "y", "d", "e"):
                    self.fails(InvalidWidth, function, self.layout, name, width)

    def test_arguments_do_not_change(self):
        text = self.layout.text
        before = [parts_of(self.layout, name) for name in (None, "x")]
        for width in (0, 26, (1, 3), -1, None):
            for name in ("a", "e", "q", None):
                for function, arguments in ((places, (width,)), (spare_of, (width,)), (size_curve, (name,)),
                                            (begin_curve, (name,)), (size_of, (name, width)), (begin_of, (name, width)),
                                            (breaks, ())):
                    try:
                        function(self.layout, *arguments)
                    except (InvalidName, InvalidWidth):
                        pass
        self.assertEqual(self.layout, Layout(text))
        self.assertEqual([parts_of(self.layout, name) for name in (None, "x")], before)
        self.assertEqual([self.layout.names, len(self.layout)], [["a", "x", "b", "c", "y", "d", "e"], 5])

    def test_every_name_is_known(self):
        for name in self.layout.names:
            self.assertEqual(size_curve(self.layout, name)(26), size_of(self.layout, name, 26))
            self.assertEqual(begin_curve(self.layout, name)(26), begin_of(self.layout, name, 26))


if __name__ == "__main__":
    unittest.main()
