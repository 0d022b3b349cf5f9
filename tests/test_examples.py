"""The examples of the document, word by word (sections 2 and 3 of the interface)."""

import doctest
import unittest

BOXES = """
>>> from boxrows.boxes import Box, greatest_width, least_width, own_width
>>> one = Box(10, least=4, most=20, grow=2, shrink=1)
>>> [one.own, one(3), one((-8, 1)), one((7, 2)), Box(3, 5).own, Box(3, 5) == Box(5, 5), one == Box(10, 4, 20, 2, 1)]
[10, (16, 1), (4, 1), (17, 1), 5, False, True]
>>> boxes = [Box(10, most=12, grow=1), Box(10, least=4, grow=2, shrink=1), Box(0, grow=1)]
>>> [least_width(boxes), own_width(boxes), greatest_width(boxes), greatest_width(boxes[:1])]
[14, 20, None, 12]
"""

SHARES = """
>>> from boxrows.boxes import Box
>>> from boxrows.shares import clash, level_range, share, spare, widths_with
>>> boxes = [Box(10, most=12, grow=1), Box(10, least=4, grow=2, shrink=1), Box(0, grow=1)]
>>> [share(boxes, 26), share(boxes, 30), share(boxes, 15), spare(boxes, 12)]
[[(23, 2), (13, 1), (3, 2)], [(12, 1), (46, 3), (8, 3)], [(10, 1), (5, 1), (0, 1)], (-2, 1)]
>>> [level_range(boxes, 26), level_range(boxes, 12), widths_with(boxes, 0, 12), widths_with(boxes, 0, 11), widths_with(boxes, 0, 9)]
[((3, 2), (3, 2)), None, (28, None), (24, 24), None]
>>> [clash(boxes, [(11, 1), (13, 1), (1, 1)]), clash(boxes, share(boxes, 30)), clash(boxes, [(10, 1), (10, 1), (1, 1)])]
[(0, 1), None, (0, 2)]
"""


class ExamplesTest(unittest.TestCase):
    def check(self, text, many):
        examples = doctest.DocTestParser().get_doctest(text, {}, "DOC.md", None, 0)
        told = []
        result = doctest.DocTestRunner(verbose=False).run(examples, out=told.append)
        self.assertEqual((result.failed, result.attempted), (0, many), "".join(told))

    def test_boxes(self):
        self.check(BOXES, 5)

    def test_shares(self):
        self.check(SHARES, 6)


if __name__ == "__main__":
    unittest.main()
