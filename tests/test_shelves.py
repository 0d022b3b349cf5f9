"""Shelves (promises 46 to 50; section 13 of the interface)."""

import random
import unittest
from fractions import Fraction

from boxrows import shelves as module
from boxrows.boxes import Box
from boxrows.errors import (
    InvalidBox, InvalidIndex, InvalidName, InvalidNumber, InvalidOperation, InvalidWidth, NameTaken, Nothing, RowError, TooLarge,
)
from boxrows.layouts import Layout, parts_of
from boxrows.shelves import FramedShelf, Shelf
from tests.models import SlowShelf, any_call
from tests.rows import any_box, numbers, pair
from tests.wrong import NO_FRACTIONS, NO_NUMBERS, WRONG_NUMBERS, EqualToAll, wrong_indexes

GREAT = 10 ** 30
NO_BOXES = [value for value in NO_NUMBERS if not isinstance(value, Box)] + NO_FRACTIONS + [3, Box, [Box(1)], ("a", Box(1)), EqualToAll()]
NO_NEW_NAMES = NO_NUMBERS + NO_FRACTIONS + ["", "A", "a ", "abcdefghi", "a1", "\u00e4", "a:1", b"a", ["a"], ("a",), 0, Shelf, "aB"]
NO_INTEGERS = NO_NUMBERS + NO_FRACTIONS + [(1, 1), (1, 2), (0, 1)]
LETTERS = "abcdefghijklmnopqrstuvwxyz"
MANY_NAMES = [one + two for one in "ab" for two in LETTERS]


def seen(shelf):
    """All that a shelf tells of itself."""
    row = [shelf.width_now, shelf.names, shelf.shares_now, shelf.pixels_now, len(shelf), shelf.log()]
    return row + ([shelf.border] if isinstance(shelf, FramedShelf) else [])


def called(shelf, step):
    """Perform a call given as a tuple; a place stands behind the two arguments of put."""
    if step[0] == "put" and len(step) == 4:
        return shelf.put(step[1], step[2], at=step[3])
    return getattr(shelf, step[0])(*step[1:])


def plain(value):
    return numbers(value) if isinstance(value, Box) else value


def example():
    one = Shelf(26)
    one.put("a", Box(10, grow=1))
    one.put("x", Box(10, least=2, grow=1, shrink=2))
    one.put("d", Box(0, grow=1))
    return one


class ShelvesTest(unittest.TestCase):
    def check(self, shelf, slow):
        wanted = [slow.whole, slow.names(), slow.shares(), slow.pixels(), len(slow.row), slow.log()]
        self.assertEqual(seen(shelf), wanted + ([slow.border] if slow.border is not None else []))

    def test_against_the_slow_shelf(self):
        source = random.Random(1201)
        done = set()
        for at in range(40):
            border = source.choice([0, 1, 9, 300]) if at % 2 else None
            whole = source.randint(0, 50)
            shelf = Shelf(whole) if border is None else FramedShelf(whole, border)
            slow = SlowShelf(whole, border)
            for _ in range(25):
                if slow.earlier and source.random() < 0.2:
                    self.assertIsNone(shelf.undo())
                    slow.undo()
                    done.add("undo")
                else:
                    step = any_call(source, slow, any_box)
                    done.add(step[0])
                    wanted = called(slow, step)
                    self.assertEqual(called(shelf, step), wanted)
                self.check(shelf, slow)
        self.assertEqual(len(done), 7)

    def test_an_empty_shelf(self):
        for shelf, room, left in ((Shelf(7), 7, 0), (FramedShelf(7, 2), 3, 2), (FramedShelf(7, 4), 0, 4), (Shelf(0), 0, 0)):
            self.assertEqual([shelf.names, shelf.shares_now, shelf.pixels_now, len(shelf), shelf.log()], [[], [], [], 0, []])
            self.assertEqual(shelf.resize(shelf.width_now), (room, 1))
            self.assertEqual(shelf.put("a", Box(0)), (room, 1))
            self.assertEqual(shelf.pixels_now, [("a", left, 0)])
            self.assertEqual(numbers(shelf.take("a")), (0, 0, None, 0, 0))
            self.assertEqual(shelf.log(), ["resize", "put", "take"])

    def test_spare_widths(self):
        one = example()
        self.assertEqual([one.resize(5), one.change("d", Box(1)), one.resize(10 ** 99)], [(-7, 1), (-8, 1), (0, 1)])
        self.assertEqual([one.change("a", Box(1)), one.change("x", Box(3, most=4, grow=9))], [(0, 1), (10 ** 99 - 6, 1)])
        self.assertEqual([one.move("a", 2), one.resize(0)], [(10 ** 99 - 6, 1), (-5, 1)])
        framed = FramedShelf(30, 4)
        self.assertEqual([framed.put("a", Box(3)), framed.resize(9), framed.resize(8), framed.resize(0)], [(19, 1), (-2, 1), (-3, 1), (-3, 1)])

    def test_put_at_places(self):
        for place, names in ((None, "abcx"), (3, "abcx"), (0, "xabc"), (1, "axbc"), (2, "abxc")):
            shelf = Shelf(9)
            for name in "abc":
                shelf.put(name, Box(1))
            shelf.put("x", Box(5), at=place)
            self.assertEqual(shelf.names, list(names))
            self.assertEqual(dict(shelf.shares_now)["x"], (5, 1))

    def test_move_counts_without_the_box(self):
        for name, index, names in (("a", 0, "abcd"), ("a", 1, "bacd"), ("a", 3, "bcda"), ("d", 0, "dabc"), ("b", 2, "acbd"), ("c", 2, "abcd")):
            shelf = Shelf(9)
            for at, other in enumerate("abcd"):
                shelf.put(other, Box(at))
            self.assertEqual(shelf.move(name, index), (3, 1))
            self.assertEqual(shelf.names, list(names))
            self.assertEqual(shelf.shares_now, [(other, ("abcd".index(other), 1)) for other in names])
            self.assertEqual(shelf.log()[-1], "move")

    def test_change_and_take(self):
        one = example()
        box = Box(3, 1, 9, 2, 1)
        one.change("x", box)
        self.assertEqual([one.names, one.take("x") == box, one.names], [["a", "x", "d"], True, ["a", "d"]])
        self.assertEqual(one.put("x", box, at=0), (0, 1))
        self.assertEqual(one.names, ["x", "a", "d"])

    def test_forty_boxes(self):
        shelf = FramedShelf(10 ** 40, 10 ** 30)
        for name in MANY_NAMES[:40]:
            shelf.put(name, Box(GREAT, GREAT, None, 10 ** 6, 1), at=0)
        self.assertEqual([len(shelf), shelf.names], [40, MANY_NAMES[39::-1]])
        room = 10 ** 40 - 2 * GREAT
        self.assertEqual(shelf.shares_now[7], (MANY_NAMES[32], pair(Fraction(room, 40))))
        self.assertEqual([shelf.pixels_now[0][1], shelf.pixels_now[20][1]], [GREAT, GREAT + room // 2])
        before = seen(shelf)
        for at in (None, 0, 40):
            with self.assertRaises(TooLarge) as caught:
                shelf.put("x", Box(1), at=at)
            self.assertEqual(caught.exception.limit, 40)
        self.assertEqual(seen(shelf), before)
        shelf.take(MANY_NAMES[0])
        shelf.put("x", Box(1))
        self.assertEqual(len(shelf), 40)

    def test_lists_are_new(self):
        one = example()
        before = seen(one)
        for found in (one.names, one.shares_now, one.pixels_now, one.log()):
            found.clear()
        one.preview(("drag", "a", 1))[0].clear()
        self.assertEqual(seen(one), before)
        found = one.drag("a", 3)
        found.clear()
        self.assertEqual(one.pixels_now, [("a", 0, 15), ("x", 15, 9), ("d", 24, 2)])

    def test_defined_in_their_file(self):
        for name in ("put", "change", "move", "take", "resize", "drag", "undo", "log", "preview", "width_now", "names",
                     "shares_now", "pixels_now", "__len__", "__eq__"):
            self.assertIn(name, vars(Shelf))
        for name in ("border", "__eq__"):
            self.assertIn(name, vars(FramedShelf))
        self.assertEqual([Shelf.__module__, FramedShelf.__module__, FramedShelf.__bases__], ["boxrows.shelves"] * 2 + [(Shelf,)])
        self.assertIs(module.Shelf, Shelf)


class DragTest(unittest.TestCase):
    def test_boxes_are_fixed(self):
        one = example()
        self.assertEqual(one.drag("x", -12), [10, 2, 14])
        self.assertEqual(one.pixels_now, [("a", 0, 10), ("x", 10, 2), ("d", 12, 14)])
        one.resize(100)
        self.assertEqual(one.shares_now, [("a", (10, 1)), ("x", (2, 1)), ("d", (14, 1))])
        self.assertEqual([numbers(one.take(name)) for name in "axd"], [(10, 0, None, 0, 0), (2, 2, None, 0, 0), (14, 0, None, 0, 0)])

    def test_dragged_by_nothing(self):
        one = Shelf(7)
        for name in "abc":
            one.put(name, Box(1, 1, 9, 1, 1))
        self.assertEqual([one.pixels_now, one.drag("a", 0), one.log()], [[("a", 0, 2), ("b", 2, 3), ("c", 5, 2)], [2, 3, 2], ["put"] * 3 + ["drag"]])
        self.assertEqual(one.shares_now, [("a", (2, 1)), ("b", (3, 1)), ("c", (2, 1))])
        self.assertEqual(one.resize(20), (13, 1))
        self.assertEqual(numbers(one.take("b")), (3, 1, 9, 0, 0))

    def test_bounds_stay(self):
        one = Shelf(20)
        one.put("a", Box(8, 3, 9))
        one.put("b", Box(12, 5, 12))
        self.assertEqual(one.drag("a", 100), [15, 5])
        self.assertEqual([one.shares_now, one.pixels_now], [[("a", (9, 1)), ("b", (5, 1))], [("a", 0, 9), ("b", 9, 5)]])
        self.assertEqual(one.drag("a", -2), [7, 7])
        self.assertEqual([numbers(one.take(name)) for name in "ab"], [(7, 3, 9, 0, 0), (7, 5, 12, 0, 0)])

    def test_a_box_that_cannot_give(self):
        one = Shelf(6)
        one.put("a", Box(0, grow=7))
        one.put("b", Box(3, least=3, most=3))
        one.put("c", Box(0, grow=5))
        self.assertEqual(one.pixels_now, [("a", 0, 2), ("b", 2, 3), ("c", 5, 1)])
        self.assertEqual(one.drag("a", 9), [3, 3, 0])

    def test_boxes_do_not_give_below_their_least_widths(self):
        one = Shelf(5)
        one.put("a", Box(0, most=2, grow=1))
        one.put("b", Box(0, least=1, grow=2))
        one.put("c", Box(0, grow=1))
        self.assertEqual(one.shares_now, [("a", (5, 4)), ("b", (5, 2)), ("c", (5, 4))])
        self.assertEqual([one.pixels_now, one.drag("b", -100)], [[("a", 0, 1), ("b", 1, 3), ("c", 4, 1)], [0, 1, 4]])

    def test_too_great(self):
        rows = [(2 * GREAT + 2, 0, True), (2 * GREAT, 0, False), (2 * GREAT, 1, True), (2 * GREAT, -1, True), (GREAT, GREAT, False), (GREAT + 1, GREAT, True)]
        for whole, number, fails in rows:
            one = Shelf(whole)
            one.put("a", Box(0, grow=1))
            one.put("b", Box(0, grow=1))
            before = seen(one)
            if fails:
                with self.assertRaises(TooLarge) as caught:
                    one.drag("a", number)
                self.assertEqual([caught.exception.limit, seen(one)], [GREAT, before])
            else:
                self.assertEqual(sum(one.drag("a", number)), whole)
        # A pixel size is too great, but no new size would be.
        one = Shelf(GREAT + 1)
        one.put("a", Box(0, grow=1))
        one.put("b", Box(0))
        with self.assertRaises(TooLarge) as caught:
            one.drag("a", -1)
        self.assertEqual([caught.exception.limit, one.log()], [GREAT, ["put", "put"]])
        one.resize(GREAT)
        self.assertEqual(one.drag("a", -1), [GREAT - 1, 1])
        one = Shelf(10 ** 99)
        one.put("a", Box(5))
        one.put("b", Box(0, grow=1))
        with self.assertRaises(TooLarge):
            one.drag("a", 0)
        self.assertEqual(one.log(), ["put", "put"])

    def test_great_boxes_of_layouts(self):
        box = parts_of(Layout(f"x[ a:{GREAT}-{GREAT}~1 b:{GREAT}~1 ]~1 c:1"), None)[0]
        self.assertEqual(numbers(box), (2 * GREAT, 0, 2 * GREAT, 0, 1))
        one = Shelf(10)
        one.put("a", box)
        one.put("b", Box(5))
        self.assertEqual([one.shares_now, one.drag("a", 2)], [[("a", (5, 1)), ("b", (5, 1))], [7, 3]])
        self.assertEqual(numbers(one.take("a")), (7, 0, 2 * GREAT, 0, 0))

    def test_drags_in_a_frame(self):
        one = FramedShelf(30, 5)
        one.put("a", Box(0, grow=1))
        one.put("b", Box(0, grow=1))
        self.assertEqual([one.drag("a", 3), one.pixels_now], [[13, 7], [("a", 5, 13), ("b", 18, 7)]])


class UndoTest(unittest.TestCase):
    def test_two_hundred_calls(self):
        source = random.Random(1211)
        shelf, slow, states = Shelf(40), SlowShelf(40), []
        for _ in range(200):
            states.append(seen(shelf))
            step = any_call(source, slow, any_box)
            called(shelf, step)
            called(slow, step)
        self.assertEqual(len(shelf.log()), 200)
        for state in reversed(states):
            self.assertIsNone(shelf.undo())
            self.assertEqual(seen(shelf), state)
        for _ in range(2):
            with self.assertRaises(Nothing) as caught:
                shelf.undo()
            self.assertIs(caught.exception.__class__, Nothing)
        self.assertEqual([seen(shelf), shelf == Shelf(40)], [states[0], True])

    def test_undo_undoes_what_is_not_undone(self):
        one = Shelf(9)
        one.put("a", Box(1))
        one.put("b", Box(2))
        one.undo()
        one.resize(5)
        self.assertEqual([one.log(), one.names, one.width_now], [["put", "resize"], ["a"], 5])
        one.undo()
        self.assertEqual([one.log(), one.names, one.width_now], [["put"], ["a"], 9])
        one.undo()
        self.assertEqual([one.log(), one.names], [[], []])

    def test_each_call_can_be_undone(self):
        steps = [("put", "q", Box(1)), ("change", "a", Box(7)), ("move", "a", 2), ("take", "x"), ("resize", 3), ("drag", "a", 2),
                 ("drag", "a", 0), ("resize", 26), ("move", "a", 0), ("put", "q", Box(1), 0)]
        for make in (example, lambda: FramedShelf(9, 2)):
            for step in steps:
                shelf = make()
                for name, box in (("a", Box(4, grow=1)), ("x", Box(2)), ("d", Box(1, 1, 3, 2, 1))):
                    if name not in shelf.names:
                        shelf.put(name, box)
                before = seen(shelf)
                called(shelf, step)
                self.assertEqual(shelf.log(), before[5] + [step[0]])
                shelf.undo()
                self.assertEqual(seen(shelf), before)

    def test_errors_are_not_undone(self):
        one = example()
        log = one.log()
        for step in (("put", "a", Box(1)), ("change", "q", Box(1)), ("move", "a", 3), ("take", "q"), ("resize", -1), ("drag", "d", 1)):
            with self.assertRaises(RowError):
                called(one, step)
            self.assertEqual(one.log(), log)


class PreviewTest(unittest.TestCase):
    def test_against_calls_one_after_another(self):
        source = random.Random(1221)
        for at in range(40):
            shelf = Shelf(30) if at % 2 else FramedShelf(30, source.randint(0, 16))
            slow = SlowShelf(30, None if at % 2 else shelf.border)
            for _ in range(source.randint(0, 8)):
                step = any_call(source, slow, any_box)[:3]
                called(shelf, step)
                called(slow, step)
            steps, wanted, before = [], [], seen(shelf)
            twin = [slow.whole, list(slow.row), list(slow.earlier)]
            for _ in range(source.randint(0, 12)):
                step = any_call(source, slow, any_box)[:3]
                steps.append(step)
                wanted.append(called(slow, step))
            slow.whole, slow.row, slow.earlier = twin
            self.assertEqual([plain(value) for value in shelf.preview(*steps)], [plain(value) for value in wanted])
            self.assertEqual(seen(shelf), before)
            self.assertEqual([plain(called(shelf, step)) for step in steps], [plain(value) for value in wanted])

    def test_by_hand(self):
        one = example()
        before = seen(one)
        self.assertEqual(one.preview(), [])
        found = one.preview(("resize", 5), ("change", "d", Box(1)), ("take", "a"), ("put", "q", Box(2)), ("move", "q", 0), ("drag", "q", 1))
        self.assertEqual(found[:2] + found[3:], [(-7, 1), (-8, 1), (0, 1), (0, 1), [3, 2, 0]])
        self.assertTrue(found[2] == Box(10, grow=1))
        self.assertEqual(seen(one), before)

    def test_wrong_operations(self):
        one = example()
        before = seen(one)
        wrong = NO_NUMBERS + [["resize", 5], "resize", ("resize",), ("resize", 5, 6), ("put", "q"), ("put", "q", Box(1), 0), ("take",),
                              ("take", "a", 1), ("change", "a"), ("move", "a"), ("move", "a", 1, 1), ("drag", "a"), ("drag", "a", 1, 1),
                              ("undo",), ("log",), ("preview",), ("preview", ()), ("names",), ("Put", "q", Box(1)), (5, 5), (None, 5),
                              ((), 5), ([], 5), ({}, 5), (EqualToAll(), 5), ("", 5), ("__len__",), ("spare", 1)]
        for item in wrong:
            for steps in ((item,), (("resize", 5), item), (("resize", -1), item), (item, ("resize", -1)), (("take", "q"), item)):
                with self.subTest(steps=steps), self.assertRaises(InvalidOperation) as caught:
                    one.preview(*steps)
                self.assertIs(caught.exception.__class__, InvalidOperation)
                self.assertEqual(seen(one), before)

    def test_errors_of_the_calls(self):
        one = example()
        before = seen(one)
        rows = [
            (InvalidWidth, ("resize", -1)), (InvalidName, ("put", "A", None)), (InvalidBox, ("put", "q", 3)), (NameTaken, ("put", "a", Box(1))),
            (InvalidName, ("change", "q", 3)), (InvalidBox, ("change", "a", 3)), (InvalidName, ("move", None, None)),
            (InvalidIndex, ("move", "a", 3)), (InvalidName, ("take", ["a"])), (InvalidName, ("drag", "d", None)), (InvalidNumber, ("drag", "a", None)),
        ]
        for error, step in rows:
            for steps in ((step,), (("resize", 7), ("take", "x"), ("put", "x", Box(1)), step), (step, ("resize", -1), ("take", "q"))):
                if steps[0] == ("resize", 7) and step == ("drag", "d", None):
                    continue
                with self.assertRaises(error) as caught:
                    one.preview(*steps)
                self.assertIs(caught.exception.__class__, error)
                self.assertEqual(seen(one), before)
        # What was taken ahead of a call is not there any more.
        with self.assertRaises(InvalidName):
            one.preview(("take", "a"), ("take", "a"))
        with self.assertRaises(NameTaken):
            one.preview(("put", "q", Box(1)), ("put", "q", Box(1)))
        self.assertEqual(len(one.preview(("put", "q", Box(1)), ("take", "q"), ("put", "q", Box(1)))), 3)


class EqualTest(unittest.TestCase):
    def test_equal(self):
        one, two = example(), example()
        self.assertTrue(one == two)
        two.resize(30)
        self.assertEqual([one == two, one != two], [False, True])
        two.resize(26)
        self.assertEqual([one == two, one != two, one.log() == two.log()], [True, False, False])
        two.move("a", 1)
        self.assertFalse(one == two)
        two.undo()
        two.change("d", Box(0, grow=1))
        self.assertTrue(one == two)
        for numbers_ in ((1, 0, None, 1), (0, 1, None, 1), (0, 0, 9, 1), (0, 0, None, 2), (0, 0, None, 1, 1)):
            two.change("d", Box(*numbers_))
            self.assertFalse(one == two)
            two.undo()
        two.take("d")
        self.assertFalse(one == two)
        two.put("e", Box(0, grow=1))
        self.assertFalse(one == two)
        two.undo()
        two.put("d", Box(0, grow=1))
        self.assertTrue(one == two)

    def test_frames(self):
        self.assertTrue(FramedShelf(9, 2) == FramedShelf(9, 2))
        for one, two in ((FramedShelf(9, 2), FramedShelf(9, 3)), (FramedShelf(9, 2), FramedShelf(8, 2)), (FramedShelf(9, 0), Shelf(9)),
                         (FramedShelf(9, 2), Shelf(5)), (Shelf(9), Shelf(8))):
            self.assertEqual([one == two, two == one, one != two], [False, False, True])
        one, two = FramedShelf(9, 2), FramedShelf(9, 2)
        one.put("a", Box(1))
        self.assertFalse(one == two)
        two.put("a", Box(1))
        self.assertTrue(one == two)
        two.put("b", Box(1), at=0)
        one.put("b", Box(1))
        self.assertFalse(one == two)

    def test_other_values(self):
        one = Shelf(9)
        for value in (None, 9, "Shelf", [], {}, (), Shelf, object(), Layout("a:1"), Box(9), 9.0):
            self.assertEqual([one == value, value == one, FramedShelf(9, 0) == value], [False] * 3)


class WrongArgumentsTest(unittest.TestCase):
    def shelves(self):
        framed = FramedShelf(40, 3)
        for name, box in (("a", Box(10, grow=1)), ("x", Box(4)), ("d", Box(0, grow=1))):
            framed.put(name, box)
        return [example(), framed]

    def fails(self, error, shelf, step, **more):
        before = seen(shelf)
        with self.subTest(step=step):
            with self.assertRaises(error) as caught:
                getattr(shelf, step[0])(*step[1:], **more)
            self.assertIs(caught.exception.__class__, error)
            self.assertEqual(seen(shelf), before)

    def test_wrong_widths(self):
        for whole in NO_NUMBERS + NO_FRACTIONS + [-1, (1, 1), (1, 2), -(10 ** 40)]:
            for make in (lambda: Shelf(whole), lambda: FramedShelf(whole, 2), lambda: FramedShelf(whole, -1)):
                with self.assertRaises(InvalidWidth) as caught:
                    make()
                self.assertIs(caught.exception.__class__, InvalidWidth)
            for shelf in self.shelves():
                self.fails(InvalidWidth, shelf, ("resize", whole))

    def test_wrong_borders(self):
        for number in WRONG_NUMBERS:
            with self.assertRaises(InvalidNumber) as caught:
                FramedShelf(9, number)
            self.assertIs(caught.exception.__class__, InvalidNumber)
        self.assertEqual([FramedShelf(9, 10 ** 99).border, FramedShelf(9, 0).border], [10 ** 99, 0])

    def test_put(self):
        for shelf in self.shelves():
            for name in NO_NEW_NAMES:
                self.fails(InvalidName, shelf, ("put", name, Box(1)))
                self.fails(InvalidName, shelf, ("put", name, None), at=-1)
            for box in NO_BOXES:
                for name in ("q", "a"):
                    self.fails(InvalidBox, shelf, ("put", name, box))
                    self.fails(InvalidBox, shelf, ("put", name, box), at=-1)
            for at in wrong_indexes(4):
                if at is not None:
                    self.fails(InvalidIndex, shelf, ("put", "q", Box(1)), at=at)
                    self.fails(InvalidIndex, shelf, ("put", "a", Box(1)), at=at)
            for name in ("a", "x", "d"):
                for at in (None, 0, 3):
                    self.fails(NameTaken, shelf, ("put", name, Box(1)), at=at)
            for name in ("q", "abcdefgh", "z"):
                shelf.put(name, Box(1))

    def test_a_full_shelf(self):
        full = Shelf(9)
        for name in MANY_NAMES[:40]:
            full.put(name, Box(1))
        self.fails(NameTaken, full, ("put", MANY_NAMES[7], Box(1)))
        self.fails(TooLarge, full, ("put", "q", Box(1)))
        self.fails(InvalidBox, full, ("put", "q", None))
        self.fails(InvalidIndex, full, ("put", MANY_NAMES[7], Box(1)), at=41)
        self.fails(TooLarge, full, ("put", "q", Box(1)), at=40)

    def test_calls_for_a_name(self):
        for shelf in self.shelves():
            for name in NO_NEW_NAMES + ["q", "aa"]:
                for step in (("change", name, Box(1)), ("change", name, None), ("move", name, 0), ("move", name, -1), ("take", name),
                             ("drag", name, 1), ("drag", name, None)):
                    self.fails(InvalidName, shelf, step)
            for box in NO_BOXES:
                self.fails(InvalidBox, shelf, ("change", "a", box))
            for index in wrong_indexes(3):
                self.fails(InvalidIndex, shelf, ("move", "a", index))
            for number in NO_INTEGERS:
                self.fails(InvalidNumber, shelf, ("drag", "a", number))
                self.fails(InvalidName, shelf, ("drag", "d", number))
            self.fails(InvalidName, shelf, ("drag", "d", 1))
        alone = Shelf(5)
        alone.put("a", Box(1))
        self.fails(InvalidName, alone, ("drag", "a", 0))
        great = Shelf(10 ** 60)
        great.put("a", Box(0, grow=1))
        great.put("b", Box(0, grow=1))
        self.fails(InvalidNumber, great, ("drag", "a", None))
        self.fails(TooLarge, great, ("drag", "a", 1))

    def test_an_empty_shelf(self):
        for shelf in (Shelf(3), FramedShelf(3, 1)):
            for step in (("change", "a", Box(1)), ("move", "a", 0), ("take", "a"), ("drag", "a", 0)):
                self.fails(InvalidName, shelf, step)
            self.fails(Nothing, shelf, ("undo",))

    def test_arguments_do_not_change(self):
        box = Box(10, 2, 12, 1, 1)
        one = example()
        one.put("q", box)
        one.drag("a", 3)
        self.assertEqual([numbers(box), box == Box(10, 2, 12, 1, 1)], [(10, 2, 12, 1, 1), True])


if __name__ == "__main__":
    unittest.main()
