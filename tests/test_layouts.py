"""Layouts (promises 21, 22, 23 and 27; sections 1 and 6 of the interface)."""

import itertools
import random
import unittest

from boxrows import layouts
from boxrows.boxes import Box
from boxrows.errors import InvalidLayout, InvalidName, InvalidText, RowError
from boxrows.layouts import Layout, parts_of
from boxrows.shares import share
from tests.rows import numbers
from tests.trees import EXAMPLE, GREAT, HEAVY, any_layout, as_part, count_boxes, names, nodes, row_widths, wrong_word
from tests.wrong import NO_FRACTIONS, NO_NUMBERS, EqualToAll

NO_TEXTS = [value for value in NO_NUMBERS if not isinstance(value, str)] + NO_FRACTIONS + [["a:1"], ("a:1",), b"a:1", 0]
NO_LAYOUTS = NO_NUMBERS + NO_FRACTIONS + [EXAMPLE, "a:1", Layout, [Layout("a:1")], EqualToAll()]


def many_names(many):
    return list(itertools.islice(names(), many))


def layouts_for(seed, many=120):
    source = random.Random(seed)
    found = [any_layout(source, depth, most) for depth in range(4) for most in (1, 2, 4) for _ in range(many // 12)]
    return found + [any_layout(source, 3, 4, GREAT, HEAVY) for _ in range(8)] + [any_layout(source, 8, 2) for _ in range(8)]


class PropertiesTest(unittest.TestCase):
    def test_against_the_tree(self):
        for tree, text in layouts_for(61):
            layout = Layout(text)
            self.assertEqual(layout.text, text)
            self.assertEqual(layout.names, [node.name for node in nodes(tree) if node.name])
            self.assertEqual(len(layout), count_boxes(tree))
            self.assertEqual((layout.own, layout.least, layout.most), row_widths(tree))

    def test_by_hand(self):
        rows = [
            ("a:5", ["a"], 1, 5, 5, 5),
            ("a:5+1", ["a"], 1, 5, 5, None),
            ("a:5/2~1", ["a"], 1, 2, 5, 5),
            ("[ a:5+1 ]", ["a"], 1, 5, 5, 5),
            ("[ a:5+1 ]+1", ["a"], 1, 5, 5, None),
            ("x[ a:5-7+1~1 ]+1", ["x", "a"], 1, 5, 5, 7),
            ("x[ a:5-7+1~1 ]~1", ["x", "a"], 1, 0, 5, 5),
            ("y{ a:5 | b:9+1 }", ["y", "a", "b"], 2, 9, 9, 9),
            ("y{ a:5 | b:9+1 }+1", ["y", "a", "b"], 2, 9, 9, None),
            ("{ a:5~1 | b:2-3+1 c:1 }+1", ["a", "b", "c"], 3, 5, 5, 5),
            ("{ a:5~1 | b:2-3+1 c:1 }+1~1", ["a", "b", "c"], 3, 3, 5, 5),
            ("{ a:5-8+1~1 | b:2/4-6+1~1 }+1~1 c:3", ["a", "b", "c"], 3, 7, 8, 11),
            ("q{ { a:1 | b:2 } | [ c:3 ] d:4 }", ["q", "a", "b", "c", "d"], 4, 7, 7, 7),
        ]
        for text, found, many, least, own, most in rows:
            layout = Layout(text)
            self.assertEqual([layout.names, len(layout), layout.least, layout.own, layout.most], [found, many, least, own, most])

    def test_equal_exactly_if_the_texts_are(self):
        texts = ["a:1", "a:1+0", "a:1/0", "b:1", "a:1 b:1", "[ a:1 ]", "x[ a:1 ]", "{ a:1 | b:1 }", EXAMPLE]
        for one, two in itertools.product(texts, texts):
            self.assertIs(Layout(one) == Layout(two), one == two)
            self.assertIs(Layout(one) != Layout(two), one != two)

    def test_a_layout_equals_no_other_value(self):
        layout = Layout(EXAMPLE)
        for value in NO_LAYOUTS:
            self.assertIs(layout == value, False)
            self.assertIs(layout != value, True)

    def test_lists_are_new(self):
        layout = Layout(EXAMPLE)
        layout.names.clear()
        layout.names.append("q")
        parts_of(layout, None).clear()
        parts_of(layout, "x").reverse()
        self.assertEqual(layout.names, ["a", "x", "b", "c", "d"])
        self.assertEqual(len(parts_of(layout, None)), 3)
        self.assertEqual(numbers(parts_of(layout, "x")[0]), (4, 2, None, 1, 1))

    def test_the_class_has_what_the_interface_lists(self):
        for name in ("__init__", "text", "names", "least", "own", "most", "__len__", "__eq__"):
            self.assertIn(name, vars(Layout))
        self.assertEqual([Layout.__module__, layouts.parts_of.__module__], ["boxrows.layouts"] * 2)


class PartsTest(unittest.TestCase):
    def test_against_the_tree(self):
        for tree, text in layouts_for(62):
            layout = Layout(text)
            rows = [(None, tree)] + [(node.name, node.rows[0]) for node in nodes(tree) if len(node.rows) == 1 and node.name]
            for name, row in rows:
                found = parts_of(layout, name)
                self.assertIs(found.__class__, list)
                self.assertTrue(all(isinstance(box, Box) for box in found))
                self.assertEqual([numbers(box) for box in found], [tuple(as_part(node)) for node in row])
                self.assertEqual([box.own for box in found], [as_part(node).own for node in row])
            for node in nodes(tree):
                if node.name and len(node.rows) != 1:
                    with self.assertRaises(InvalidName):
                        parts_of(layout, node.name)
            self.assertEqual(layout, Layout(text))

    def test_by_hand(self):
        layout = Layout("a:10+1 x[ b:4/2+1~1 c:6-8+2~1 ]+1~2 y{ z[ d:3+1 ]+2 | e:9~1 }+4~5")
        self.assertEqual([numbers(box) for box in parts_of(layout, None)],
                         [(10, 0, None, 1, 0), (10, 2, None, 1, 2), (9, 3, None, 4, 5)])
        self.assertEqual(parts_of(layout, "x"), [Box(4, 2, None, 1, 1), Box(6, 0, 8, 2, 1)])
        self.assertEqual(parts_of(layout, "z"), [Box(3, grow=1)])
        self.assertEqual(parts_of(Layout("[ a:1 ]+2"), None), [Box(1, 1, 1, 2)])
        self.assertEqual(parts_of(Layout("[ a:5/3-7~1 ]+2~3"), None), [Box(5, 3, 5, 2, 3)])

    def test_great_widths(self):
        layout = Layout(f"x[ a:{GREAT}/{GREAT} b:{GREAT}/1-{GREAT}~1 ]+1~{HEAVY} c:0+{HEAVY}")
        self.assertEqual([layout.least, layout.own, layout.most], [GREAT + 1, 2 * GREAT, None])
        box = parts_of(layout, None)[0]
        self.assertEqual(numbers(box), (2 * GREAT, GREAT + 1, 2 * GREAT, 1, HEAVY))
        self.assertEqual([box.own, box(0), box(-GREAT)], [2 * GREAT, (2 * GREAT, 1), (GREAT + 1, 1)])
        self.assertEqual(share(parts_of(layout, None), 2 * GREAT + 1), [(2 * GREAT, 1), (1, 1)])

    def test_wrong_layouts(self):
        for value in NO_LAYOUTS:
            for name in (None, "x", "", 3):
                with self.subTest(value=value, name=name):
                    with self.assertRaises(InvalidLayout) as caught:
                        parts_of(value, name)
                    self.assertIs(caught.exception.__class__, InvalidLayout)

    def test_wrong_names(self):
        layout = Layout("a:10+1 x[ b:4 ] y{ c:1 | d:1 } [ e:1 ] { f:1 | g:1 }")
        for name in [value for value in NO_NUMBERS if value is not None] + ["a", "b", "y", "c", "e", "f", "", "X", "x ", "xx",
                                                                            "x[", "[", 0, ["x"], ("x",), "a:10+1", b"x"]:
            with self.subTest(name=name):
                with self.assertRaises(InvalidName) as caught:
                    parts_of(layout, name)
                self.assertIs(caught.exception.__class__, InvalidName)


class TextTest(unittest.TestCase):
    def fails(self, text, index):
        with self.subTest(text=text if len(str(text)) < 200 else str(text)[:200]):
            with self.assertRaises(InvalidText) as caught:
                Layout(text)
            self.assertIs(caught.exception.__class__, InvalidText)
            self.assertIsInstance(caught.exception, RowError)
            self.assertEqual(caught.exception.index, index)

    def test_no_strings(self):
        for value in NO_TEXTS:
            self.fails(value, None)

    def test_words_for_boxes(self):
        self.check_words(["a:0", "a:7", "abcdefgh:10", f"a:{GREAT}", f"a:{GREAT}/{GREAT}-{GREAT}+{HEAVY}~{HEAVY}", "a:5-3",
                          "a:5/3-3", "a:5/0-0+0~0", "a:5~1", "a:5+1", "a:5-0", "a:5/9", "a:5/2~3", "a:5/2+3", "a:5-2~3",
                          "zzzzzzzz:1/2-3+4~5", "a:9/1-2~0"],
                         ["a", "a:", ":5", "a5", "5", "A:5", "a1:5", "abcdefghi:5", "a:05", "a:00", "a:+5", "a:-5", "a: 5",
                          "a:5/", "a:5-", "a:5+", "a:5~", "a:5/03", "a:5-03", "a:5+01", "a:5~00", "a:5/4-3", f"a:{GREAT + 1}",
                          f"a:1/{GREAT + 1}", f"a:1-{GREAT + 1}", f"a:1+{HEAVY + 1}", f"a:1~{HEAVY + 1}", "a:5-7/3", "a:5+1-7",
                          "a:5~1+1", "a:5+1/3", "a:5~1/3", "a:5~1-7", "a:5+1+1", "a:5~1~1", "a:5/1/1", "a:5-7-7", "a:5:6",
                          "a::5", "a:5.0", "a:5e3", "a:x", "a:5/x", "a:5+-1", "a:5/+1", "a:1_0", "a:1,0", "a_b:5", "a:5\t",
                          "a:5\n", "\ta:5", "a:\u0665", "\u00e4:5", "a:\u00b2", "a-b:5", "a:" + "9" * 3990, "a:" + "1" * 5000,
                          "a" * 4000, "a:5]", "[a:5", "a:5|", "a;5", "a:5+1~", "a:/3", "a:+1", "a:~1", "a:5+~1", "a:0x1"])

    def check_words(self, right, wrong):
        for word in right:
            self.assertEqual(len(Layout(word)), 1, word)
            self.assertEqual(len(Layout(f"[ {word} ]+1 q:1")), 2, word)
        for word in wrong:
            if " " not in word:
                self.fails(word, 0)
                self.fails("q:1 " + word, 1)
                self.fails(f"q:1 {word} ] }}", 1)
                self.fails(f"q:1 [ r:1 | {word} ]", 3)
                self.fails(f"q:1 [ r:1 {word} ]", 3)

    def test_words_for_brackets(self):
        for word in ("]", "]+1", "]~1", "]+1~1", "]+0~0", f"]+{HEAVY}~{HEAVY}"):
            self.assertEqual(len(Layout("x[ a:1 " + word)), 1)
            self.assertEqual(len(Layout("{ a:1 | b:1 " + word.replace("]", "}"))), 2)
            self.fails("x[ a:1 " + word.replace("]", "}"), 2)
            self.fails("{ a:1 | b:1 " + word, 4)
        for word in ("]+", "]~", "]+01", "]~00", f"]+{HEAVY + 1}", f"]~{HEAVY + 1}", "]~1+1", "]1", "]/1", "]-1", "]+1~", "]x",
                     "]+1+1", "]]", "] ", "]|", "]+1]", "]+" + "9" * 3000, "]:1", "]+-1", "x]", "]["):
            self.fails("x[ a:1 " + word, 2 if word != "] " else 3)
            self.fails("x{ a:1 | b:1 " + word.replace("]", "}"), 4 if word != "] " else 5)
        for word in ("[[", "[]", "X[", "x1[", "abcdefghi[", "[+1", "[x", ":[", "x:[", "x:1[", "{{", "{}", "[{", "(", "x(", "{|", "x{1"):
            self.fails(word + " a:1 ]", 0)
        self.assertEqual(Layout("abcdefgh[ a:1 ] bcdefghi{ b:1 | c:1 }").names, ["abcdefgh", "a", "bcdefghi", "b", "c"])

    def test_spaces(self):
        for text, index in (("", 0), (" ", 0), ("  ", 0), (" a:1", 0), ("a:1 ", 1), ("a:1  b:1", 1), ("[  a:1 ]", 1),
                            ("a:1\tb:1", 0), ("a:1\nb:1", 0), ("[ a:1 ]  ", 3), ("[ a:1 ", 2), ("{ a:1 |  b:1 }", 3)):
            self.fails(text, index)

    def test_brackets(self):
        rows = [
            ("]", 0), ("}", 0), ("|", 0), ("[", 1), ("{", 1), ("x[", 1), ("[ ]", 1), ("{ }", 1), ("{ |", 1), ("{ | a:1 }", 1),
            ("{ a:1 }", 2), ("{ a:1 | }", 3), ("{ a:1 | | b:1 }", 3), ("{ a:1 |", 3), ("{ a:1 | b:1", 4), ("{ a:1", 2),
            ("[ a:1", 2), ("[ a:1 |", 2), ("[ a:1 | b:1 ]", 2), ("[ a:1 }", 2), ("{ a:1 | b:1 ]", 4), ("{ a:1 ]", 2),
            ("a:1 | b:1", 1), ("a:1 ]", 1), ("a:1 }", 1), ("[ a:1 ] ]", 3), ("{ a:1 | b:1 } }", 5), ("{ a:1 | b:1 } |", 5),
            ("{ [ a:1 | b:1 ] | c:1 }", 3), ("{ [ a:1 } ]", 3), ("[ { a:1 | b:1 ] }", 5), ("{ [ a:1 ] }", 4), ("{ [ ] | a:1 }", 2),
            ("[ { a:1 | b:1 }", 6), ("[ [ a:1 ]", 4), ("a:1 [", 2), ("{ a:1 | [ b:1 }", 5), ("{ a:1 | { b:1 } }", 5),
        ]
        for text, index in rows:
            self.fails(text, index)

    def test_names(self):
        rows = [("a:1 a:2", 1), ("a[ a:1 ]", 1), ("a:1 a[ b:1 ]", 1), ("a[ b:1 ] b{ c:1 | d:1 }", 3), ("{ a:1 | a:1 }", 3),
                ("a[ b:1 ] a[ c:1 ]", 3), ("a{ b:1 | a[ c:1 ] }", 3), ("a:1 b:1 c:1 b:1 a:1", 3), ("x{ b:1 | c:1 } x:1", 5)]
        for text, index in rows:
            self.fails(text, index)
        self.assertEqual(len(Layout("[ a:1 ] [ b:1 ] { c:1 | d:1 } { e:1 | f:1 }")), 6)

    def test_against_the_slow_reader(self):
        source = random.Random(63)
        seen = set()
        for tree, text in layouts_for(64, 240):
            self.assertIsNone(wrong_word(text))
            words = text.split(" ")
            for _ in range(25):
                changed = list(words)
                for _ in range(source.randint(1, 2)):
                    self.change(source, changed)
                self.check(" ".join(changed), seen)
        for kind in (None, 0, 1, 2, 3, 8, "end"):
            self.assertIn(kind, seen)

    def change(self, source, words):
        """Change one word: remove it, double it, put another one there, or change one of its signs."""
        at = source.randrange(len(words)) if words else 0
        kind = source.randint(0, 4)
        extra = source.choice(["|", "]", "}", "[", "{", "a:1", "q[", "zz:1+1", "]+1", "}~2", "", words[at] if words else ""])
        if kind == 0 and len(words) > 1:
            del words[at]
        elif kind == 1:
            words.insert(at, extra)
        elif kind == 2:
            words[at] = extra
        elif kind == 3:
            del words[at + 1:]
        else:
            place = source.randint(0, len(words[at]))
            words[at] = words[at][:place] + source.choice("a0:/-+~[]{}|") + words[at][place + source.randint(0, 1):]

    def check(self, text, seen):
        index = wrong_word(text)
        seen.add("end" if index == len(text.split(" ")) else index)
        if index is None:
            self.assertEqual(Layout(text).text, text)
        else:
            self.fails(text, index)


class LimitsTest(unittest.TestCase):
    fails = TextTest.fails

    def test_parts_of_a_row(self):
        boxes = [name + ":1" for name in many_names(90)]
        forty = boxes[:40]
        self.assertEqual(len(Layout(" ".join(forty))), 40)
        self.fails(" ".join(boxes[:41]), 40)
        self.fails(" ".join(forty + ["[", "zz:1", "]"]), 40)
        self.fails(" ".join(forty + ["{", "zz:1", "|", "zy:1", "}"]), 40)
        self.fails(" ".join(forty + ["zz["]), 40)
        self.assertEqual(len(Layout(" ".join(forty[:39] + ["[", "zz:1", "]"]))), 40)
        self.fails(" ".join(forty[:39] + ["[", "zz:1", "]", "zy:1"]), 42)
        self.assertEqual(len(Layout(" ".join(["yyy["] + forty + ["]", "zz:1"]))), 41)
        self.fails(" ".join(["yyy["] + boxes[:41] + ["]"]), 41)
        self.assertEqual(len(Layout(" ".join(["{"] + forty + ["|"] + boxes[40:80] + ["}"]))), 80)
        self.fails(" ".join(["{"] + boxes[:41]), 41)
        self.fails(" ".join(["{"] + forty + ["|"] + boxes[40:81] + ["}"]), 82)
        self.fails(" ".join(["{"] + forty + ["|"] + boxes[40:80] + ["["]), 82)

    def test_rows_of_a_stack(self):
        boxes = [name + ":1" for name in many_names(9)]
        for many in range(2, 9):
            self.assertEqual(len(Layout("{ " + " | ".join(boxes[:many]) + " }")), many)
        self.fails("{ " + " | ".join(boxes) + " }", 16)
        self.fails("{ " + " | ".join(boxes[:8]) + " |", 16)
        self.fails("{ " + " | ".join(boxes[:8]) + " | ]", 16)
        eight = "{ " + " | ".join(boxes[:8]) + " }"
        self.assertEqual(len(Layout("{ " + eight + " | " + boxes[8] + " }")), 9)

    def test_boxes_of_a_text(self):
        boxes = [name + ":1" for name in many_names(122)]
        rows = [["["] + boxes[at:at + 40] + ["]"] for at in (0, 40, 80)]
        words = rows[0] + rows[1] + rows[2]
        self.assertEqual(len(Layout(" ".join(words))), 120)
        self.fails(" ".join(words + boxes[120:121]), 126)
        self.fails(" ".join(words + ["[", boxes[120], "]"]), 127)
        self.fails(" ".join(boxes[120:121] + words), 125)
        self.fails(" ".join(["["] + boxes[:39] + ["]"] + rows[1] + rows[2] + boxes[120:122]), 126)

    def test_open_brackets(self):
        for opening, closing in (("[", "]"), ("{", "| {} }}")):
            letters = [name + ":1" for name in many_names(30)]
            for many in range(1, 9):
                behind = [closing.format(letters[at]) for at in range(many)]
                self.assertEqual(len(Layout(" ".join([opening] * many + ["zz:1"] + behind))), 1 if opening == "[" else many + 1)
            self.fails(" ".join([opening] * 9 + ["zz:1"]), 8)
            self.fails(" ".join([opening] * 8 + ["x[", "zz:1"]), 8)
            self.fails(" ".join([opening] * 8 + ["zz:1", "x{"]), 9)
        deep = "[ [ [ [ [ [ [ [ {}:1 ] ] ] ] ] ] ] ]"
        self.assertEqual(len(Layout(" ".join(deep.format(name) for name in many_names(40)))), 40)
        self.fails(deep.format("a") + " [ [ [ [ [ [ [ { [ b:1", 17 + 8)

    def test_the_first_wrong_word_counts(self):
        boxes = [name + ":1" for name in many_names(41)]
        self.fails(" ".join(boxes + ["a:1", "]", "?"]), 40)
        self.fails(" ".join(boxes[:40] + ["?"]), 40)
        self.fails(" ".join(boxes[:40] + ["a:1"]), 40)
        self.fails(" ".join(boxes[:40] + ["]"]), 40)
        self.fails(" ".join(boxes[:39] + ["a:1"] + boxes[39:]), 39)
        self.fails("a:1 | a:1 ] ?", 1)
        self.fails("[ a:1 a:1", 2)

    def test_widths_of_great_rows(self):
        boxes = [f"{name}:{GREAT}/{GREAT}-{GREAT}+{HEAVY}~{HEAVY}" for name in many_names(120)]
        rows = [["["] + boxes[at:at + 40] + [f"]+{HEAVY}~{HEAVY}"] for at in (0, 40, 80)]
        layout = Layout(" ".join(rows[0] + rows[1] + rows[2]))
        self.assertEqual([len(layout), layout.least, layout.own, layout.most], [120] + [120 * GREAT] * 3)
        self.assertEqual(numbers(parts_of(layout, None)[1]), (40 * GREAT, 40 * GREAT, 40 * GREAT, HEAVY, HEAVY))


if __name__ == "__main__":
    unittest.main()
