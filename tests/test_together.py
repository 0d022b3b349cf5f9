"""What holds between the answers of several functions (promises 37 and 53)."""

import itertools
import random
import unittest
from fractions import Fraction

from boxrows.boxes import Box
from boxrows.console import Console
from boxrows.counts import count_widths, total_pixels
from boxrows.drags import dragged, some_drags
from boxrows.layouts import Layout
from boxrows.lines import count_lines, least_for, line_at, line_kinds, line_of, line_shares
from boxrows.pixels import first_pixel_difference, pixel_size, pixels, same_pixels
from boxrows.places import breaks, places, size_curve, spare_of
from boxrows.sames import first_difference, same_sizes
from boxrows.shares import share
from boxrows.shelves import FramedShelf, Shelf
from tests.models import SlowShelf, any_call, box_text
from tests.pairs import all_numbers, any_tree, box_nodes, text_of, times_weights, turned, variants, weights_of, with_weights
from tests.rows import any_box, any_row, fraction, numbers, pair, some_widths
from tests.trees import GREAT, HEAVY, Node, Numbers, layout_widths, nodes


def trees_for(seed, many=30, top=9, heaviest=3, depth=2):
    source = random.Random(seed)
    return [any_tree(source, depth, 3, top, heaviest) for _ in range(many)]


def box_row(boxes):
    """The tree of a row of boxes alone."""
    return [Node(name, Numbers(*numbers(box)), []) for name, box in zip("abcdefghijklmnopqrstuvwxyz", boxes)]


def same_everywhere(test, one, two, widths):
    """Two layouts with the same names have the same places."""
    test.assertTrue(same_sizes(one, two))
    for width in widths:
        test.assertEqual(places(one, pair(width)), places(two, pair(width)))


def scaled(numbers_, many):
    """The numbers of a box with all widths many times as great."""
    return numbers_._replace(wish=numbers_.wish * many, least=numbers_.least * many,
                             most=None if numbers_.most is None else numbers_.most * many)


def rows_in(row, name=None):
    """Tuples of the name of a row, or None for the outermost one, and the names of its parts, where all have one."""
    if all(node.name for node in row):
        yield name, [node.name for node in row]
    for node in row:
        if len(node.rows) == 1 and node.name:
            yield from rows_in(node.rows[0], node.name)


class SizesTest(unittest.TestCase):
    def test_places_of_a_row_alone_are_its_shares(self):
        source = random.Random(951)
        for _ in range(40):
            boxes = any_row(source, 8, *source.choice([(12, 3), (GREAT, HEAVY)]))
            layout = Layout(text_of(box_row(boxes)))
            for width in some_widths(boxes, source):
                found, begin = places(layout, pair(width)), Fraction(0)
                sizes = share(boxes, pair(width))
                self.assertEqual([size for _, _, size in found], sizes)
                for (_, left, size) in found:
                    self.assertEqual(left, pair(begin))
                    begin += fraction(size)

    def test_weights_times_a_number_change_nothing(self):
        source = random.Random(952)
        for tree in trees_for(953):
            layout = Layout(text_of(tree))
            widths = layout_widths(source, tree)
            for grow, shrink in ((2, 1), (1, 7), (333333, 250000)):
                same_everywhere(self, layout, Layout(text_of(times_weights(tree, grow, shrink))), widths[::3])
            inner = [node._replace(rows=[times_weights(row, 5, 3) for row in node.rows]) for node in tree]
            same_everywhere(self, layout, Layout(text_of(inner)), widths[1::3])

    def test_all_widths_many_times_as_great(self):
        source = random.Random(954)
        for tree in trees_for(955):
            many = source.choice([2, 7, 10 ** 28])
            one, two = Layout(text_of(tree)), Layout(text_of(all_numbers(tree, lambda found: scaled(found, many))))
            for width in layout_widths(source, tree)[::2]:
                wanted = [(name, pair(many * fraction(begin)), pair(many * fraction(size)))
                          for name, begin, size in places(one, pair(width))]
                self.assertEqual(places(two, pair(many * width)), wanted)
            self.assertEqual(breaks(two), [pair(many * fraction(width)) for width in breaks(one)])
            for name in one.names:
                small, great = size_curve(one, name), size_curve(two, name)
                self.assertEqual(great.points, [(pair(many * fraction(w)), pair(many * fraction(v))) for w, v in small.points])
                self.assertEqual(great.slope, small.slope)

    def test_first_difference_is_the_least_one_of_the_curves(self):
        source = random.Random(956)
        for tree in trees_for(957):
            one = Layout(text_of(tree))
            for other in variants(source, tree):
                two = Layout(text_of(other))
                wholes = [size_curve(one, node.name).differs_from(size_curve(two, node.name)) for node in box_nodes(tree)]
                self.assertEqual(first_difference(one, two), min([w for w in wholes if w is not None], default=None))

    def test_no_size_depends_on_the_order(self):
        source = random.Random(958)
        for tree in trees_for(959, 30, 12, 3, 3):
            one, two = Layout(text_of(tree)), Layout(text_of(turned(source, tree)))
            self.assertTrue(same_sizes(one, two))
            for width in layout_widths(source, tree)[::2]:
                self.assertEqual(sorted((name, size) for name, _, size in places(one, pair(width))),
                                 sorted((name, size) for name, _, size in places(two, pair(width))))

    def test_a_box_put_as_equal_boxes_side_by_side(self):
        source = random.Random(960)
        for tree in trees_for(961, 30, 9, 3, 1):
            many = source.randint(2, 5)
            at = source.choice([at for at, node in enumerate(tree) if node.numbers] or [None])
            if at is None:
                continue
            node = tree[at]
            small = node.numbers
            great = with_weights(node._replace(numbers=scaled(small, many)), *[many * weight for weight in weights_of(node)])
            boxes = [Node("z" + "y" * k, small, []) for k in range(many)]
            one, two = Layout(text_of(tree[:at] + [great] + tree[at + 1:])), Layout(text_of(tree[:at] + boxes + tree[at + 1:]))
            for width in layout_widths(source, tree[:at] + [great] + tree[at + 1:]):
                left = {name: (begin, size) for name, begin, size in places(one, pair(width))}
                right = {name: (begin, size) for name, begin, size in places(two, pair(width))}
                for other in left:
                    if other != node.name:
                        self.assertEqual(left[other], right[other])
                for box in boxes:
                    self.assertEqual(many * fraction(right[box.name][1]), fraction(left[node.name][1]))


class PixelsTest(unittest.TestCase):
    def test_parts_lie_side_by_side_on_pixels(self):
        source = random.Random(971)
        for tree in trees_for(972, 30, 12, 3, 3):
            layout = Layout(text_of(tree))
            rows = list(rows_in(tree))
            for width in (0, 1, 7, 8, 9, 30, 31, 10 ** 40, source.randint(0, 60)):
                found = {name: (begin, size) for name, begin, size in pixels(layout, width)}
                exact = {name: fraction(size) for name, _, size in places(layout, width)}
                for name, parts in rows:
                    self.assertEqual(found[parts[0]][0], 0 if name is None else found[name][0])
                    for one, two in itertools.pairwise(parts):
                        self.assertEqual(found[two][0], sum(found[one]))
                for name, (_, size) in found.items():
                    self.assertLess(abs(size - exact[name]), 1)

    def test_one_more_unit_of_width(self):
        for tree in trees_for(973, 15, 9, 3, 2):
            layout = Layout(text_of(tree))
            for width in list(range(0, 40)) + [10 ** 50]:
                for (_, begin, size), (_, begin2, size2) in zip(pixels(layout, width), pixels(layout, width + 1)):
                    self.assertIn(begin2 - begin, (0, 1))
                    self.assertIn(begin2 + size2 - begin - size, (0, 1))

    def test_counts_add_up(self):
        source = random.Random(974)
        for tree in trees_for(975, 12, 9, 3, 2):
            layout = Layout(text_of(tree))
            for name in source.sample(layout.names, min(len(layout.names), 3)):
                for low, high in ((0, 25), (13, 49), (10 ** 50, 10 ** 50 + 20)):
                    sizes = [pixel_size(layout, name, width) for width in range(low, high + 1)]
                    counts = {number: count_widths(layout, name, number, low, high)
                              for number in range(min(sizes), max(sizes) + 1)}
                    self.assertEqual(sum(counts.values()), high - low + 1)
                    self.assertEqual(sum(number * many for number, many in counts.items()), total_pixels(layout, name, low, high))

    def test_totals_of_the_parts_of_a_row(self):
        source = random.Random(976)
        seen = 0
        for tree in trees_for(977, 100, 12, 3, 2):
            layout = Layout(text_of(tree))
            low, high = layout.least, layout.most
            if high is None:
                high = low + source.choice([5, 100, 10 ** 60])
            if not all(node.name for node in tree):
                continue
            self.assertEqual([spare_of(layout, low), spare_of(layout, high)], [(0, 1)] * 2)
            totals = sum(total_pixels(layout, node.name, low, high) for node in tree)
            self.assertEqual(totals, (low + high) * (high - low + 1) // 2)
            for node in tree:
                if len(node.rows) == 1 and all(part.name for part in node.rows[0]):
                    # A row in a row is given a width between its bounds.
                    seen += 1
                    inner = sum(total_pixels(layout, part.name, low, high) for part in node.rows[0])
                    self.assertEqual(inner, total_pixels(layout, node.name, low, high))
        self.assertGreater(seen, 6)

    def test_pixels_follow_sizes(self):
        source = random.Random(978)
        alike, other = 0, 0
        for tree in trees_for(979, 60):
            one = Layout(text_of(tree))
            for changed in (times_weights(tree, 2, 3), all_numbers(tree, lambda found: found._replace(grow=found.grow * 2)),
                            all_numbers(tree, lambda found: found._replace(shrink=0)),
                            all_numbers(tree, lambda found: found._replace(wish=found.own))):
                two = Layout(text_of(changed))
                self.assertEqual([node.name for node in nodes(tree)], [node.name for node in nodes(changed)])
                whole, on_pixels = first_difference(one, two), first_pixel_difference(one, two)
                if whole is None:
                    alike += 1
                    self.assertTrue(same_pixels(one, two))
                elif on_pixels is not None:
                    other += 1
                    self.assertGreaterEqual(on_pixels, whole)
        self.assertGreater(min(alike, other), 40)

    def test_a_box_alone(self):
        for box in (Box(3, 1, 9, 1, 1), Box(0, 0, None, 5)):
            layout = Layout(text_of(box_row([box])))
            for width in range(15):
                self.assertEqual((pixel_size(layout, "a", width), 1), share([box], width)[0])


class LinesTest(unittest.TestCase):
    def patterns(self, seed, many=60):
        source = random.Random(seed)
        for _ in range(many):
            boxes = any_row(source, 5, 6)
            yield boxes, source.randint(0, 2), source.randint(1, 6), source.randint(0, 25)

    def test_lines_are_rows_and_have_all_boxes(self):
        for boxes, gap, times, whole in self.patterns(981):
            found = []
            for index in range(count_lines(boxes, gap, times, whole)):
                first, length = line_at(boxes, gap, times, whole, index)
                line = range(first, first + length)
                found.extend(line)
                self.assertTrue(all(line_of(boxes, gap, times, whole, box) == (index, box - first) for box in line))
                sizes = line_shares(boxes, gap, times, whole, index)
                row = [boxes[box % len(boxes)] for box in line]
                if length <= 40:
                    self.assertEqual([sizes[box % len(boxes)] for box in line], share(row, whole - gap * (length - 1)))
                missing = [at for at in range(len(boxes)) if at not in {box % len(boxes) for box in line}]
                self.assertEqual([at for at in range(len(boxes)) if sizes[at] is None], missing)
            self.assertEqual(found, list(range(len(boxes) * times)))

    def test_lines_of_one_kind_have_the_same_sizes(self):
        for boxes, gap, times, whole in self.patterns(982):
            sizes = {}
            for index in range(count_lines(boxes, gap, times, whole)):
                first, length = line_at(boxes, gap, times, whole, index)
                sizes.setdefault((first % len(boxes), length), []).append(line_shares(boxes, gap, times, whole, index))
            self.assertEqual([(place, length, len(sizes[(place, length)])) for place, length in sorted(sizes)], line_kinds(boxes, gap, times, whole))
            for rows in sizes.values():
                self.assertEqual(rows, rows[:1] * len(rows))

    def test_no_other_way_to_break_is_better(self):
        for boxes, gap, times, whole in self.patterns(983, 40):
            owns = [box.own for box in boxes] * times
            fewest = [0]
            for end in range(1, len(owns) + 1):
                fits = [begin for begin in range(end) if sum(owns[begin:end]) + gap * (end - begin - 1) <= whole or begin == end - 1]
                fewest.append(1 + min(fewest[begin] for begin in fits))
            self.assertEqual(count_lines(boxes, gap, times, whole), fewest[-1])

    def test_a_greater_width_never_leads_to_more_lines(self):
        source = random.Random(984)
        for boxes, gap, _, _ in self.patterns(985, 20):
            for times, wholes in ((7, range(60)), (GREAT, sorted(source.randint(0, 10 ** 33) for _ in range(10)))):
                counts = [count_lines(boxes, gap, times, whole) for whole in wholes]
                self.assertEqual(counts, sorted(counts, reverse=True))
                for number in counts[::4]:
                    self.assertLessEqual(least_for(boxes, gap, times, number), wholes[counts.index(number)])


class ShelvesTest(unittest.TestCase):
    def shelves(self, seed, many=25):
        """Shelves, frames among them, and the boxes in their rows."""
        source = random.Random(seed)
        for at in range(many):
            shelf = Shelf(source.randint(0, 60)) if at % 2 else FramedShelf(source.randint(0, 60), source.randint(0, 5))
            boxes = [any_box(source) for _ in range(source.randint(1, 7))]
            for name, box in zip("abcdefgh", boxes):
                shelf.put(name, box)
            border = 0 if at % 2 else shelf.border
            yield shelf, boxes, border, max(0, shelf.width_now - 2 * border), source

    def test_shares_and_pixels_are_those_of_the_row(self):
        for shelf, boxes, border, room, _ in self.shelves(991):
            layout = Layout(text_of(box_row(boxes)))
            self.assertEqual([size for _, size in shelf.shares_now], share(boxes, room))
            self.assertEqual(shelf.shares_now, [(name, size) for name, _, size in places(layout, room)])
            self.assertEqual(shelf.pixels_now, [(name, begin + border, size) for name, begin, size in pixels(layout, room)])
            self.assertEqual(shelf.resize(shelf.width_now), spare_of(layout, room))

    def test_a_drag_leads_to_the_sizes_of_dragged(self):
        for shelf, boxes, _, _, source in self.shelves(992):
            if len(boxes) < 2:
                continue
            index, number = source.randrange(len(boxes) - 1), source.randint(-20, 20)
            sizes = [size for _, _, size in shelf.pixels_now]
            leasts = [min(size, box.least) for size, box in zip(sizes, boxes)]
            self.assertEqual(shelf.drag(shelf.names[index], number), dragged(sizes, leasts, index, number))

    def test_drags_on_a_shelf_lead_to_the_goal(self):
        source = random.Random(993)
        for _ in range(40):
            leasts = [source.randint(0, 3) for _ in range(source.randint(2, 7))]
            sizes = [least + source.randint(0, 6) for least in leasts]
            goal = list(sizes)
            for _ in range(4):
                goal = dragged(goal, leasts, source.randrange(len(goal) - 1), source.randint(-9, 9))
            shelf = Shelf(sum(sizes))
            for name, size, least in zip("abcdefgh", sizes, leasts):
                shelf.put(name, Box(size, least))
            for index, number in some_drags(sizes, leasts, goal):
                sizes = dragged(sizes, leasts, index, number)
                self.assertEqual(shelf.drag(shelf.names[index], number), sizes)
            self.assertEqual([size for _, _, size in shelf.pixels_now], goal)

    def test_a_console_and_previews_answer_alike(self):
        source = random.Random(994)
        for _ in range(20):
            shelf, slow, console = Shelf(33), SlowShelf(33), Console()
            console.execute("start 33")
            for _ in range(15):
                step = any_call(source, slow, any_box)[:3]
                getattr(slow, step[0])(*step[1:])
                before = Shelf(33) == shelf
                told = shelf.preview(step)
                self.assertEqual(Shelf(33) == shelf, before)
                value = getattr(shelf, step[0])(*step[1:])
                self.assertTrue(told == [value])
                words = [box_text(step[1], step[2])] if step[0] in ("put", "change") else [str(word) for word in step[1:]]
                answer = console.execute(" ".join([step[0]] + words))
                if step[0] == "take":
                    self.assertEqual(answer, box_text(step[1], value))
                elif step[0] == "drag":
                    self.assertEqual(answer, " ".join(map(str, value)))
                else:
                    self.assertEqual(Fraction(answer), fraction(value))
                for name, begin, size in shelf.pixels_now:
                    self.assertEqual(console.execute(f"pixel {name}"), f"{begin} {size}")
                self.assertEqual(console.execute("names"), " ".join(shelf.names) or "-")


if __name__ == "__main__":
    unittest.main()
