"""Sames (promises 28 to 30; section 8 of the interface)."""

import random
import unittest
from fractions import Fraction

from boxrows import sames as module
from boxrows.errors import InvalidLayout, InvalidName, OtherNames, TooLarge
from boxrows.layouts import Layout
from boxrows.places import places, size_curve, size_of
from boxrows.sames import first_difference, first_unflat, flatten, is_flat, same_sizes
from tests.pairs import any_tree, box_nodes, named_rows, slow_flat, text_of, times_weights, variants, weights_of
from tests.rows import fraction, pair
from tests.trees import EXAMPLE, GREAT, HEAVY, SlowLayout, any_layout, nodes
from tests.wrong import NO_FRACTIONS, NO_NUMBERS, EqualToAll

NO_LAYOUTS = NO_NUMBERS + NO_FRACTIONS + [EXAMPLE, Layout, [Layout("a:1")], EqualToAll()]
NO_ROWS = NO_NUMBERS + ["", "A", "q", "x[", "[", "a", "b", "c", "d", "y", "e", 0, ("x",), ["x"], b"x"]
SEEN = 45


def slow_first(one, two, top=SEEN):
    """The least whole width up to top at which some box has different sizes."""
    return next((width for width in range(top + 1) if one.box_sizes(width) != two.box_sizes(width)), None)


class DifferencesTest(unittest.TestCase):
    def check(self, one, two):
        first, second = Layout(text_of(one)), Layout(text_of(two))
        one, two = SlowLayout(one), SlowLayout(two)
        found, slow = first_difference(first, second), slow_first(one, two)
        self.assertEqual(first_difference(second, first), found)
        self.assertEqual([same_sizes(first, second), same_sizes(second, first)], [found is None] * 2)
        if found is None or found > SEEN:
            self.assertIsNone(slow)
        else:
            self.assertEqual(found, slow)
        if found is not None:
            self.assertNotEqual(one.box_sizes(found), two.box_sizes(found))
        else:
            for width in (10 ** 6, 10 ** 12 + 1, 10 ** 40):
                self.assertEqual(one.box_sizes(width), two.box_sizes(width))
        return found

    def test_against_the_slow_way(self):
        source = random.Random(801)
        found = []
        for _ in range(30):
            tree = any_tree(source)
            for other in variants(source, tree) + [tree]:
                found.append(self.check(tree, other))
        self.assertGreater(sum(whole is None for whole in found), 60)
        self.assertGreater(len(set(found)), 10)

    def test_the_least_of_the_curves(self):
        source = random.Random(802)
        for _ in range(25):
            tree = any_tree(source, 2, 3, GREAT, HEAVY)
            for other in variants(source, tree):
                one, two = Layout(text_of(tree)), Layout(text_of(other))
                wholes = [size_curve(one, node.name).differs_from(size_curve(two, node.name)) for node in box_nodes(tree)]
                found = min([whole for whole in wholes if whole is not None], default=None)
                self.assertEqual(first_difference(one, two), found)
                if found:
                    slow, slow2 = SlowLayout(tree), SlowLayout(other)
                    self.assertEqual(slow.box_sizes(found - 1), slow2.box_sizes(found - 1))
                    self.assertNotEqual(slow.box_sizes(found), slow2.box_sizes(found))

    def test_by_hand(self):
        rows = [
            ("a:1 b:1", "b:1 a:1", None),
            ("a:1 b:1", "a:1 b:2", 0),
            ("a:5+1 b:5", "a:5 b:5+1", 11),
            ("a:5~1 b:5", "a:5 b:5~1", 0),
            ("a:5+1 b:5+1", "a:5-9+1 b:5+1", 19),
            ("a:5+1 b:5+1", "a:5+2 b:5+2", None),
            ("a:0+1 b:0+1", "x[ a:0+1 b:0+1 ]+1", None),
            ("a:0+1 b:0+1", "x[ a:0+1 b:0+1 ]", 1),
            ("a:0+1 b:0+1", "x{ a:0+1 | b:0+1 }+1", 1),
            ("x[ a:3+1 ] b:0", "b:0 x[ a:3 ]+1", None),
            ("x[ a:3+1 ]+1 b:0", "b:0 x[ a:3 ]+1", 4),
            ("x[ a:1 ]+1 b:1", "x[ b:1 ]+1 a:1", None),
            ("a:2/1~1 b:2/1~1", "a:2/1~1 b:2/2~1", 0),
            ("a:2/1~1 b:2", "a:2~1 b:2", 0),
            ("a:5/2~1 b:7", "a:5/2~1 b:7+1", 13),
        ]
        for one, two, found in rows:
            with self.subTest(one=one, two=two):
                self.assertEqual(first_difference(Layout(one), Layout(two)), found)
                self.assertEqual(first_difference(Layout(two), Layout(one)), found)
                self.assertIs(same_sizes(Layout(one), Layout(two)), found is None)

    def test_behind_very_many_widths(self):
        far = 10 ** 30
        one, two = Layout(f"a:0-{far}+1 b:0+1"), Layout("a:0+1 b:0+1")
        self.assertEqual(first_difference(one, two), 2 * far + 1)
        one, two = Layout(f"a:0-{far}+1 b:0+1 c:0+999999"), Layout(f"a:0-{far - 1}+1 b:0+1 c:0+999999")
        self.assertEqual(first_difference(one, two), (far - 1) * 1000001 + 1)
        one, two = Layout(f"a:{far}/{far} b:0+1"), Layout(f"a:{far}/{far} b:0-{far - 3}+1")
        self.assertEqual(first_difference(one, two), 2 * far - 2)
        self.assertIs(same_sizes(one, two), False)
        deep, other = "a:0+1 b:0+1", f"a:0-{far}+1 b:0+1"
        for at in range(7):
            deep, other = f"[ {deep} ]+1 {'c' * (at + 1)}:0+999999", f"[ {other} ]+1 {'c' * (at + 1)}:0+999999"
        whole = 2 * far * 10 ** 42 + 1
        self.assertEqual(first_difference(Layout(deep), Layout(other)), whole)
        self.assertEqual(first_difference(Layout(other), Layout(deep)), whole)

    def test_great_numbers(self):
        text = f"a:{GREAT}/{GREAT - 1}-{GREAT}+{HEAVY}~{HEAVY} b:{GREAT}-{GREAT}+{HEAVY}~1 c:0-{GREAT}+1"
        self.assertIs(same_sizes(Layout(text), Layout("x[ " + text + " ]+7~3")), True)
        self.assertEqual(first_difference(Layout(text), Layout("x[ " + text + " ]+7")), 0)
        self.assertEqual(first_difference(Layout(text), Layout("x[ " + text + " ]~3")), 2 * GREAT + 1)
        other = text.replace(f"a:{GREAT}/{GREAT - 1}", f"a:{GREAT}/{GREAT - 2}")
        self.assertEqual(first_difference(Layout(text), Layout(other)), 0)

    def test_very_many_boxes(self):
        source = random.Random(803)
        letters = "abcdefghijk"
        names = [one + two for one in letters for two in letters][:120]
        words = [f"{name}:{source.randint(0, 99)}/{at % 7}-{100 + 3 * at}+{at % 9 + 1}~{at % 5}" for at, name in enumerate(names)]
        rows = [words[at:at + 40] for at in (0, 40, 80)]
        one = Layout(" ".join(f"[ {' '.join(row)} ]+{at + 1}~2" for at, row in enumerate(rows)))
        other = Layout(" ".join(f"[ {' '.join(row[::-1])} ]+{2 * at + 2}~6" for at, row in enumerate(rows)))
        self.assertEqual([len(one), first_difference(one, other), same_sizes(one, other)], [120, None, True])
        last = rows[2][-1]
        third = Layout(one.text.replace(last, last.replace("-457", "-458")))
        found = first_difference(one, third)
        self.assertEqual(found, first_difference(third, one))
        name = names[-1]
        self.assertEqual(size_of(one, name, found - 1), size_of(third, name, found - 1))
        self.assertEqual([size_of(one, name, found), fraction(size_of(third, name, found)) > 457], [(457, 1), True])

    def test_weights_of_the_outermost_row_times_a_number(self):
        source = random.Random(804)
        for _ in range(20):
            tree, _ = any_layout(source, 3, 4, GREAT, 1000)
            one = Layout(text_of(tree))
            self.assertTrue(same_sizes(one, Layout(text_of(times_weights(tree, 1000, 999)))))


class FlattenTest(unittest.TestCase):
    def test_against_the_slow_way(self):
        source = random.Random(811)
        many, unflat = 0, []
        while many < 100:
            tree = any_tree(source, 3, 3, 9, source.choice([3, 12]))
            for name in named_rows(tree):
                many += 1
                layout, flat = Layout(text_of(tree)), slow_flat(tree, name)
                text = layout.text
                found = flatten(layout, name)
                self.assertIsInstance(found, Layout)
                self.assertEqual(found.text, text_of(flat))
                self.assertEqual(layout.text, text)
                self.assertEqual([node.name for node in nodes(flat) if node.name], found.names)
                whole, slow = first_unflat(layout, name), slow_first(SlowLayout(tree), SlowLayout(flat), 25)
                unflat.append(whole)
                self.assertEqual(whole, first_difference(layout, found))
                self.assertEqual(None if whole is None or whole > 25 else whole, slow)
                self.assertIs(is_flat(layout, name), whole is None)
        self.assertGreater(unflat.count(None), 15)
        self.assertGreater(len(set(unflat)), 8)

    def test_great_rows_against_the_slow_way(self):
        source = random.Random(812)
        told = []
        for _ in range(80):
            tree = any_tree(source, 2, 3, GREAT, source.choice([40, HEAVY]))
            for name in named_rows(tree):
                layout, flat = Layout(text_of(tree)), slow_flat(tree, name)
                heaviest = max(weight for node in nodes(flat) for weight in weights_of(node))
                told.append(heaviest > HEAVY)
                if heaviest > HEAVY:
                    for function in (flatten, first_unflat, is_flat):
                        with self.assertRaises(TooLarge) as caught:
                            function(layout, name)
                        self.assertEqual(caught.exception.limit, HEAVY)
                else:
                    self.assertEqual(flatten(layout, name).text, text_of(flat))
        self.assertEqual(set(told), {True, False})

    def test_texts_by_hand(self):
        rows = [
            ("x[ a:1 ]", "x", "a:1"),
            ("x[ a:1/0-0+0~0 ]+0~0", "x", "a:1-0"),
            ("x[ a:1/2-0003+1 ]", None, None),
            ("x[ a:1+4 b:1+6 ]+5", "x", "a:1+2 b:1+3"),
            ("x[ a:1+4 b:1+6 ]", "x", "a:1 b:1"),
            ("x[ a:1+4 b:1+6 ] c:0+6", "x", "a:1 b:1 c:0+1"),
            ("x[ a:1 b:1 ]+5 c:0+6 d:0+9", "x", "a:1 b:1 c:0+2 d:0+3"),
            ("x[ a:1+4 b:1-1+6 ]+5 c:0+6", "x", "a:1+5 b:1-1 c:0+6"),
            ("x[ a:1+4 b:5-1+6 ]+5 c:0+6", "x", "a:1+5 b:5-1 c:0+6"),
            ("x[ a:1+4 b:0/1-1+6 ]+5 c:0+6", "x", "a:1+5 b:0/1-1 c:0+6"),
            ("x[ a:1+4 b:0/1-2+6 ]+5 c:0+6", "x", "a:1+2 b:0/1-2+3 c:0+6"),
            ("x[ a:3/3~4 b:3/2~6 ]~5 c:1~10", "x", "a:3/3 b:3/2~1 c:1~2"),
            ("x[ a:1/3~4 b:3/2~6 ]~5 c:1~10", "x", "a:1/3 b:3/2~1 c:1~2"),
            ("x[ a:9-2/0~4 b:3/2~4 ]~5 c:1~10", None, None),
            ("x[ a:9/0-2~4 b:3/2~4 ]~5 c:1~10", "x", "a:9-2~1 b:3/2~1 c:1~4"),
            ("x[ a:9/2-2~4 b:3/2~4 ]~5 c:1~10", "x", "a:9/2-2 b:3/2~1 c:1~2"),
            ("x[ a:0~4 b:3~4 ]~5 c:1~10", "x", "a:0 b:3~1 c:1~2"),
            ("c:0+2 x[ { a:1+1 | b:4 }+3 y[ d:2 ]+1 ]+2", "x", "c:0+1 { a:1+1 | b:4 }+1 y[ d:2 ]"),
            ("c:0+2 x[ { a:1 | b:4 }+3 y[ d:2 ]+1 ]+2", "x", "c:0+1 { a:1 | b:4 } y[ d:2 ]"),
            ("c:0+2 x[ { a:1+1 | b:4+1 }+3 y[ d:2+2 ]+1 ]+2", "x", "c:0+4 { a:1+1 | b:4+1 }+3 y[ d:2+2 ]+1"),
            ("c:0+2 x[ { a:1+1 | b:4+1 }+3 y[ d:2+2 ]+1 ]+2", "y", "c:0+2 x[ { a:1+1 | b:4+1 }+3 d:2+1 ]+2"),
            ("z{ a:1/0+0 | x[ b:1+2 ]+4~0 c:1+8 }+4", "x", "z{ a:1 | b:1+1 c:1+2 }+4"),
            ("z{ x[ b:1+2 ]+4 | c:0/0-0+2~0 }~3", "x", "z{ b:1+1 | c:0-0+2 }~3"),
            ("[ a:1 x[ b:1+1 ]+1 ]+0~3 [ c:1~0 ]", "x", "[ a:1 b:1+1 ]~3 [ c:1 ]"),
        ]
        for text, name, flat in rows:
            if name is not None:
                with self.subTest(text=text):
                    self.assertEqual(flatten(Layout(text), name), Layout(flat))

    def test_first_unflat_by_hand(self):
        rows = [
            ("x[ a:1 b:1 ]", None),
            ("x[ a:0-3+1 b:0+1 ]+2 c:0+2", 13),
            ("x[ a:0-3+1 b:0+1 ]+2", None),
            ("x[ a:0+1 b:0+1 ]+2 c:0+2", None),
            ("x[ a:4/3~1 b:4~1 ]~2 c:8~2", 4),
            ("x[ a:4/3~1 b:4~1 ]~2 c:8/2~2", 6),
            ("x[ a:1 ]+1 c:0+1", None),
            ("x[ a:0-2+1 ]+1 c:0+1", None),
            ("a:0+1 x[ b:0+1 ]", None),
            ("x[ a:5~1 b:1 ]", None),
            (f"x[ a:0-{GREAT}+1 b:0+1 ]+2 c:0+2", 4 * GREAT + 1),
            (f"x[ a:0-{GREAT}+1 b:0+{HEAVY - 1} ]+{HEAVY} c:0+1", GREAT * (HEAVY + 1) + 1),
        ]
        for text, found in rows:
            with self.subTest(text=text):
                self.assertEqual(first_unflat(Layout(text), "x"), found)
                self.assertIs(is_flat(Layout(text), "x"), found is None)

    def test_too_great_weights(self):
        heavy = HEAVY - 1
        rows = [
            f"x[ a:0+2 b:0+1 ]+{HEAVY} c:0+1",
            f"x[ a:0+{heavy} b:0+{HEAVY} ]+{HEAVY} c:0+{heavy}",
            f"x[ a:9~2 b:9~1 ]~{HEAVY} c:0~1",
            f"a:0+1 x[ b:0+{heavy} c:0+2 ]+1 d:0+1",
        ]
        for text in rows:
            for function in (flatten, first_unflat, is_flat):
                with self.subTest(text=text), self.assertRaises(TooLarge) as caught:
                    function(Layout(text), "x")
                self.assertEqual(caught.exception.limit, HEAVY)
        self.assertEqual(flatten(Layout(f"a:0+1 x[ b:0+{heavy} c:0+1 ]+1"), "x").text, f"a:0+{HEAVY} b:0+{heavy} c:0+1")
        self.assertEqual(flatten(Layout(f"a:9~1 x[ b:9~{heavy} c:9~1 ]~1"), "x").text, f"a:9~{HEAVY} b:9~{heavy} c:9~1")
        self.assertEqual(flatten(Layout(f"x[ b:0+{HEAVY} c:0+{HEAVY} ]+{HEAVY}"), "x").text, "b:0+1 c:0+1")

    def test_too_many_parts(self):
        letters = "abcdefghijklmnopqrstuvw"
        names = [one + two for one in letters for two in letters]
        for outer, inner in ((1, 40), (20, 20), (20, 21), (39, 1), (38, 4), (39, 2), (39, 40), (0, 40)):
            words = [f"{name}:1+1" for name in names[:outer + inner]]
            text = " ".join(words[:outer] + ["x["] + words[outer:] + ["]+1"])
            if outer + inner <= 40:
                self.assertEqual(len(flatten(Layout(text), "x").names), outer + inner)
                continue
            for function in (flatten, first_unflat, is_flat):
                with self.assertRaises(TooLarge) as caught:
                    function(Layout(text), "x")
                self.assertEqual(caught.exception.limit, 40)
            # Both apply: the weights come first.
            heavy = text.replace(words[outer], words[outer].replace("+1", f"+{HEAVY}")).replace("]+1", f"]+{HEAVY - 1}")
            with self.assertRaises(TooLarge) as caught:
                flatten(Layout(heavy), "x")
            self.assertEqual(caught.exception.limit, HEAVY if inner > 1 else 40)

    def test_eight_brackets_deep(self):
        text = "a[ b[ c[ d[ e[ f[ g[ h[ i:4/1-9+1~1 ]+1~1 ]+1~1 ]+1~1 ]+1~1 ]+1~1 ]+1~1 ]+1~1 ]+1~1"
        layout = Layout(text)
        for name in "abcdefgh":
            self.assertEqual(flatten(layout, name).names, [other for other in "abcdefghi" if other != name])
            self.assertIsNone(first_unflat(layout, name))
        while len(layout.names) > 1:
            layout = flatten(layout, layout.names[0])
        self.assertEqual(layout.text, "i:4/1-9+1~1")


class WrongArgumentsTest(unittest.TestCase):
    def setUp(self):
        self.layout = Layout("a:10+1 x[ b:4/2+1~1 c:6-8+2~1 ]+1~2 y{ d:0+1 | [ e:1 ] }")
        self.other = Layout("a:1 b:1 c:1 d:1 e:1")

    def fails(self, error, function, *args):
        with self.subTest(function=function.__name__, args=args):
            with self.assertRaises(error) as caught:
                function(*args)
            self.assertIs(caught.exception.__class__, error)

    def test_wrong_layouts(self):
        for wrong in NO_LAYOUTS:
            for function in (first_difference, same_sizes):
                self.fails(InvalidLayout, function, wrong, self.layout)
                self.fails(InvalidLayout, function, self.layout, wrong)
                self.fails(InvalidLayout, function, wrong, wrong)
                self.fails(InvalidLayout, function, wrong, Layout("q:1"))
            for function in (flatten, first_unflat, is_flat):
                for name in ("x", "q", None):
                    self.fails(InvalidLayout, function, wrong, name)

    def test_other_names(self):
        for text in ("a:1", "a:1 b:1 c:1 d:1", "a:1 b:1 c:1 d:1 e:1 f:1", "a:1 b:1 c:1 d:1 f:1", "a:1 b:1 c:1 d:1 e[ y:1 ]",
                     "a:1 b:1 c:1 d:1 x:1", "a:1 b:1 c:1 d:1 x[ ee:1 ]"):
            for function in (first_difference, same_sizes):
                self.fails(OtherNames, function, self.layout, Layout(text))
                self.fails(OtherNames, function, Layout(text), self.layout)
        for text in ("a:1 b:1 c:1 d:1 e:1", "e:1 d:1 c:1 b:1 a:1", "x[ e:1 d:1 ] y[ c:1 b:1 ] z[ a:1 ]", "x{ e:1 d:1 | c:1 b:1 a:1 }"):
            self.assertEqual(first_difference(self.layout, Layout(text)), 0)

    def test_wrong_names(self):
        for name in NO_ROWS:
            for function in (flatten, first_unflat, is_flat):
                self.fails(InvalidName, function, self.layout, name)
        for function in (flatten, first_unflat, is_flat):
            function(self.layout, "x")

    def test_arguments_do_not_change(self):
        texts = [self.layout.text, self.other.text]
        before = places(self.layout, 26), places(self.other, 26)
        for function in (first_difference, same_sizes):
            function(self.layout, self.other)
        for function in (flatten, first_unflat, is_flat):
            function(self.layout, "x")
        self.assertEqual([self.layout.text, self.other.text], texts)
        self.assertEqual((places(self.layout, 26), places(self.other, 26)), before)
        self.assertEqual(flatten(self.layout, "x"), flatten(self.layout, "x"))

    def test_defined_in_their_file(self):
        for name in ("first_difference", "same_sizes", "flatten", "first_unflat", "is_flat"):
            self.assertEqual(getattr(module, name).__module__, "boxrows.sames")

    def test_flat_layouts_are_passed_back(self):
        flat = flatten(self.layout, "x")
        self.assertEqual(flat.names, ["a", "b", "c", "y", "d", "e"])
        for width in (0, 5, 20, (81, 4)):
            self.assertEqual(sum(fraction(size) for name, _, size in places(flat, width) if name in "abcy"),
                             fraction(places(flat, width)[3][1]) + fraction(size_of(flat, "y", width)))
            self.assertEqual(pair(Fraction(*size_of(flat, "a", width))), size_of(flat, "a", width))


if __name__ == "__main__":
    unittest.main()
