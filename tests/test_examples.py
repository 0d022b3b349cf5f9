"""The examples of the document, word by word (sections 2 to 14 of the interface)."""

import doctest
import unittest

BOXES = """
>>> from boxrows.boxes import Box, greatest_width, least_width, own_width
>>> one = Box(10, least=4, most=20, grow=2, shrink=1)
>>> [one.own, one(3), one((-8, 1)), one((7, 2)), Box(3, 5).own, Box(3, 5) == Box(5, 5), one == Box(10, 4, 20, 2, 1)]
[10, (16, 1), (4, 1), (17, 1), 5, False, True]
>>> boxes = [Box(10, most=12, grow=1), Box(10, least=4, grow=2, shrink=1), Box(0, grow=1)]
>>> [least_width(boxes), own_width(boxes), greatest_width(boxes), greatest_width(boxes[:1])]
[14, 20, None, 12]
"""

SHARES = """
>>> from boxrows.boxes import Box
>>> from boxrows.shares import clash, level_range, share, spare, widths_with
>>> boxes = [Box(10, most=12, grow=1), Box(10, least=4, grow=2, shrink=1), Box(0, grow=1)]
>>> [share(boxes, 26), share(boxes, 30), share(boxes, 15), spare(boxes, 12)]
[[(23, 2), (13, 1), (3, 2)], [(12, 1), (46, 3), (8, 3)], [(10, 1), (5, 1), (0, 1)], (-2, 1)]
>>> [level_range(boxes, 26), level_range(boxes, 12), widths_with(boxes, 0, 12), widths_with(boxes, 0, 11), widths_with(boxes, 0, 9)]
[((3, 2), (3, 2)), None, (28, None), (24, 24), None]
>>> [clash(boxes, [(11, 1), (13, 1), (1, 1)]), clash(boxes, share(boxes, 30)), clash(boxes, [(10, 1), (10, 1), (1, 1)])]
[(0, 1), None, (0, 2)]
"""

ROUNDS = """
>>> from boxrows.boxes import Box
>>> from boxrows.rounds import hard_row, is_rounds, rounds
>>> boxes = [Box(0, most=9, grow=1), Box(0, most=10, grow=1), Box(0, grow=1)]
>>> [rounds(boxes, 30), rounds(boxes, 40), is_rounds(boxes, 40, [[], [1], [0], [2]]), is_rounds(boxes, 30, [[], [1], [0], [2]])]
[[[], [0], [1], [2]], [[], [0, 1], [2]], True, False]
>>> hard, whole = hard_row(7)
>>> [len(hard), len(rounds(hard, whole))]
[7, 8]
"""

CURVES = """
>>> from boxrows.boxes import Box
>>> from boxrows.curves import Curve, box_curve
>>> boxes = [Box(10, most=12, grow=1), Box(10, least=4, grow=2, shrink=1), Box(0, grow=1)]
>>> one = box_curve(boxes, 0)
>>> [one.points, one.slope, one(24), one.widths_of(11), one.widths_of(12), one.widths_of((25, 2))]
[[((0, 1), (10, 1)), ((20, 1), (10, 1)), ((28, 1), (12, 1))], (0, 1), (11, 1), ((24, 1), (24, 1)), ((28, 1), None), None]
>>> half, bent = Curve([((0, 1), (0, 1))], (1, 2)), Curve([((0, 1), (0, 1)), ((4, 1), (2, 1))], (1, 3))
>>> [half.after(Curve([((0, 1), (3, 1))], (1, 1))).points, (half + bent).slope, half.differs_from(bent), half.falls_below(bent), bent.falls_below(half)]
[[((0, 1), (3, 2))], (5, 6), 5, None, 5]
"""

LAYOUTS = """
>>> from boxrows.boxes import Box
>>> from boxrows.layouts import Layout, parts_of
>>> one = Layout("a:10+1 x[ b:4/2+1~1 c:6-8+2~1 ]+1~2 d:0+1")
>>> [one.names, len(one), one.least, one.own, one.most, parts_of(one, "x") == [Box(4, 2, None, 1, 1), Box(6, 0, 8, 2, 1)]]
[['a', 'x', 'b', 'c', 'd'], 4, 12, 20, None, True]
>>> two = Layout("{ a:5~1 | b:2-3+1 c:1 }+1")
>>> [two.least, two.own, two.most]
[5, 5, 5]
"""

PLACES = """
>>> from boxrows.layouts import Layout
>>> from boxrows.places import begin_of, breaks, places, size_curve, size_of, spare_of
>>> one = Layout("a:10+1 x[ b:4/2+1~1 c:6-8+2~1 ]+1~2 d:0+1")
>>> places(one, 26)
[('a', (0, 1), (12, 1)), ('x', (12, 1), (12, 1)), ('b', (12, 1), (14, 3)), ('c', (50, 3), (22, 3)), ('d', (24, 1), (2, 1))]
>>> [size_of(one, "c", 32), size_of(one, "c", 16), begin_of(one, "d", 16), spare_of(one, 11), breaks(one)]
[(8, 1), (4, 1), (16, 1), (-1, 1), [(12, 1), (16, 1), (20, 1), (29, 1)]]
>>> [size_curve(one, "c").points, size_curve(one, "c").slope]
[[((0, 1), (0, 1)), ((12, 1), (0, 1)), ((16, 1), (4, 1)), ((20, 1), (6, 1)), ((29, 1), (8, 1))], (0, 1)]
"""

SAMES = """
>>> from boxrows.layouts import Layout
>>> from boxrows.sames import first_difference, first_unflat, flatten, is_flat, same_sizes
>>> one = Layout("a:10+1 x[ b:4/2+1~1 c:6-8+2~1 ]+1~2 d:0+1")
>>> [first_difference(one, Layout("a:10+1 b:4/2+1~1 c:6-8+2~1 d:0+1")), same_sizes(one, one), flatten(one, "x").text, first_unflat(one, "x")]
[21, True, 'a:10+3 b:4/2+1~1 c:6-8+2~1 d:0+3', 30]
>>> [is_flat(Layout("x[ a:1-3+1 b:1-9+1 ]+5"), "x"), is_flat(Layout("x[ a:1-3+1 b:1-9+1 ]+5 c:0+1"), "x"), flatten(Layout("x[ a:1-3+1 b:1-9+1 ]+5"), "x").text]
[True, False, 'a:1-3+1 b:1-9+1']
"""

PIXELS = """
>>> from boxrows.layouts import Layout
>>> from boxrows.pixels import first_pixel_difference, pixel_size, pixels, same_pixels
>>> one, two = Layout("a:10+1 x[ b:4/2+1~1 c:6-8+2~1 ]+1~2 d:0+1"), Layout("a:0+1 b:0+2")
>>> [pixels(one, 26), [pixel_size(two, "b", whole) for whole in range(8)]]
[[('a', 0, 12), ('x', 12, 12), ('b', 12, 5), ('c', 17, 7), ('d', 24, 2)], [0, 1, 1, 2, 3, 3, 4, 5]]
>>> [first_pixel_difference(two, Layout("a:0+1 b:0+1")), same_pixels(two, Layout("a:0+2 b:0+4"))]
[1, True]
"""

COUNTS = """
>>> from boxrows.counts import count_widths, first_from, nth_width, total_pixels
>>> from boxrows.layouts import Layout
>>> two = Layout("a:0+1 b:0+2")
>>> [count_widths(two, "a", 1, 0, 10 ** 30), nth_width(two, "a", 1, 2), first_from(two, "b", 3), total_pixels(two, "b", 0, 7)]
[3, 4, 4, 19]
"""

LINES = """
>>> from boxrows.boxes import Box
>>> from boxrows.lines import count_lines, least_for, line_at, line_kinds, line_of, line_shares
>>> boxes = [Box(3, grow=1), Box(4), Box(2)]
>>> [count_lines(boxes, 1, 10 ** 30, 10), line_of(boxes, 1, 10 ** 30, 10, 7), line_at(boxes, 1, 10 ** 30, 10, 2), line_shares(boxes, 1, 10 ** 30, 10, 0)]
[1500000000000000000000000000000, (3, 1), (4, 2), [(5, 1), (4, 1), None]]
>>> [line_kinds(boxes, 1, 2, 10), least_for(boxes, 1, 2, 1), least_for(boxes, 1, 2, 2)]
[[(0, 2, 1), (1, 2, 1), (2, 2, 1)], 23, 11]
"""

DRAGS = """
>>> from boxrows.drags import dragged, fewest_drags, repeated, some_drags
>>> [dragged([5, 5, 5], [2, 4, 1], 0, 3), dragged([5, 5, 5], [2, 4, 1], 1, -9), repeated([1, 9, 2], [0] * 3, [(0, 2)], 3), repeated([1, 9, 2], [0] * 3, [(0, 2)], 10 ** 30)]
[[8, 4, 3], [2, 4, 9], [7, 3, 2], [12, 0, 0]]
>>> [fewest_drags([3, 3, 1, 3], [0] * 4, [5, 0, 3, 2]), fewest_drags([0, 4, 5], [0] * 3, [2, 0, 7]), len(some_drags([3, 3, 1, 3], [0] * 4, [5, 0, 3, 2]))]
[2, 2, 2]
"""

SHELVES = """
>>> from boxrows.boxes import Box
>>> from boxrows.shelves import FramedShelf, Shelf
>>> one = Shelf(26)
>>> [one.put("a", Box(10, grow=1)), one.put("d", Box(0, grow=1)), one.put("x", Box(10, least=2, grow=1, shrink=2), at=1), one.names]
[(0, 1), (0, 1), (0, 1), ['a', 'x', 'd']]
>>> [one.pixels_now, one.drag("a", 3), one.resize(30), one.undo(), one.log()]
[[('a', 0, 12), ('x', 12, 12), ('d', 24, 2)], [15, 9, 2], (4, 1), None, ['put', 'put', 'put', 'drag']]
>>> [one.preview(("resize", 5), ("change", "d", Box(1))), one.width_now, one == Shelf(26)]
[[(-21, 1), (-20, 1)], 26, False]
>>> framed = FramedShelf(30, 2)
>>> [framed.put("a", Box(0, grow=1)), framed.pixels_now, framed.border]
[(0, 1), [('a', 2, 26)], 2]
"""

CONSOLE = """
>>> from boxrows.console import Console
>>> one = Console()
>>> [one.execute(row) for row in ["start 26", "put a:10+1", "put d:0+1", "put x:10/2+1~2 1", "names", "size x", "pixel d", "rounds", "drag a 3", "size a"]]
['ok', '0', '0', '0', 'a x d', '12', '24 2', '1', '15 9 2', '15']
>>> [one.execute(row) for row in ["undo", "resize 27", "size a", "take x", "spare", "change d:4-9", "undo", "undo", "names"]]
['ok', '0', '37/3', 'x:10/2+1~2', '0', '0', 'ok', 'ok', 'a x d']
"""


class ExamplesTest(unittest.TestCase):
    def check(self, text, many):
        examples = doctest.DocTestParser().get_doctest(text, {}, "DOC.md", None, 0)
        told = []
        result = doctest.DocTestRunner(verbose=False).run(examples, out=told.append)
        self.assertEqual((result.failed, result.attempted), (0, many), "".join(told))

    def test_boxes(self):
        self.check(BOXES, 5)

    def test_shares(self):
        self.check(SHARES, 6)

    def test_rounds(self):
        self.check(ROUNDS, 6)

    def test_curves(self):
        self.check(CURVES, 7)

    def test_layouts(self):
        self.check(LAYOUTS, 6)

    def test_places(self):
        self.check(PLACES, 6)

    def test_sames(self):
        self.check(SAMES, 5)

    def test_pixels(self):
        self.check(PIXELS, 5)

    def test_counts(self):
        self.check(COUNTS, 4)

    def test_lines(self):
        self.check(LINES, 5)

    def test_drags(self):
        self.check(DRAGS, 3)

    def test_shelves(self):
        self.check(SHELVES, 8)

    def test_console(self):
        self.check(CONSOLE, 4)


if __name__ == "__main__":
    unittest.main()
