"""Layouts for the tests, as trees, and slow second ways to read them and to find places."""

import itertools
import math
import re
from fractions import Fraction
from typing import NamedTuple

from tests.rows import bounds, rounds_share, slow_sum

EXAMPLE = "a:10+1 x[ b:4/2+1~1 c:6-8+2~1 ]+1~2 d:0+1"
GREAT = 10 ** 30
HEAVY = 10 ** 6

NUMBER = "(?:0|[1-9][0-9]*)"
NAME = "[a-z]{1,8}"
BOX_WORD = re.compile(f"({NAME}):({NUMBER})(?:/({NUMBER}))?(?:-({NUMBER}))?(?:[+]({NUMBER}))?(?:~({NUMBER}))?")
OPENING = re.compile(f"({NAME})?([\\[{{])")
CLOSING = re.compile(f"([\\]}}])(?:[+]({NUMBER}))?(?:~({NUMBER}))?")


class Numbers(NamedTuple):
    """The five numbers of a part, of any size."""

    wish: int
    least: int
    most: int
    grow: int
    shrink: int

    @property
    def own(self):
        wish = max(self.wish, self.least)
        return wish if self.most is None else min(wish, self.most)


class Node(NamedTuple):
    """A part: a box with numbers, or rows (one for a row, more for a stack) with two weights."""

    name: str
    numbers: Numbers
    rows: list
    grow: int = 0
    shrink: int = 0


def names():
    """All names, the short ones first."""
    for many in range(1, 9):
        for letters in itertools.product("abcdefghijklmnopqrstuvwxyz", repeat=many):
            yield "".join(letters)


def weights_text(source, grow, shrink):
    """The signs for two weights; a weight of 0 is left out, or told."""
    return "".join(f"{sign}{weight}" for sign, weight in (("+", grow), ("~", shrink)) if weight or source.randint(0, 3) == 0)


def words_of(source, row):
    """The words for a row."""
    found = []
    for node in row:
        if node.numbers:
            wish, least, most, grow, shrink = node.numbers
            word = f"{node.name}:{wish}" + (f"/{least}" if least or source.randint(0, 3) == 0 else "")
            found.append(word + ("" if most is None else f"-{most}") + weights_text(source, grow, shrink))
            continue
        signs = "[]" if len(node.rows) == 1 else "{}"
        found.append((node.name or "") + signs[0])
        for at, inner in enumerate(node.rows):
            found += (["|"] if at else []) + words_of(source, inner)
        found.append(signs[1] + weights_text(source, node.grow, node.shrink))
    return found


def any_numbers(source, top, heaviest):
    least = source.choice([0, source.randint(0, top)])
    most = source.choice([None, least, source.randint(least, top)])
    return Numbers(source.randint(0, top), least, most, source.randint(0, heaviest), source.randint(0, heaviest))


class Grower:
    """Makes rows of a tree, up to some depth."""

    def __init__(self, source, depth=3, most=3, top=12, heaviest=3):
        self.source, self.most, self.top, self.heaviest = source, most, top, heaviest
        self.names = names()
        self.tree = self.row(depth)

    def row(self, depth):
        return [self.node(depth) for _ in range(self.source.randint(1, self.most))]

    def node(self, depth):
        kind = self.source.randint(0, 3) if depth else 0
        if kind < 2:
            return Node(next(self.names), any_numbers(self.source, self.top, self.heaviest), [])
        name = self.source.choice([None, next(self.names)])
        rows = [self.row(depth - 1) for _ in range(1 if kind == 2 else self.source.randint(2, 3))]
        return Node(name, None, rows, self.source.randint(0, self.heaviest), self.source.randint(0, self.heaviest))


def count_boxes(row):
    return sum(1 if node.numbers else sum(map(count_boxes, node.rows)) for node in row)


def any_layout(source, depth=3, most=3, top=12, heaviest=3):
    """A tree and its text."""
    while True:
        tree = Grower(source, depth, most, top, heaviest).tree
        if count_boxes(tree) <= 120:
            return tree, " ".join(words_of(source, tree))


def row_widths(row):
    """The own, the least and the greatest width of a row, from levels that are far away."""
    parts = [as_part(node) for node in row]
    least, greatest = bounds(parts)
    return int(slow_sum(parts, 0)), int(least), None if greatest is None else int(greatest)


def as_part(node):
    """The numbers with which a part shares the width of its row."""
    if node.numbers:
        return node.numbers
    owns, leasts, mosts = zip(*map(row_widths, node.rows))
    return Numbers(max(owns), max(leasts), None if None in mosts else max(mosts), node.grow, node.shrink)


def slow_places(row, begin, width):
    """The node, the begin and the size of each part, by the rounds of point 8."""
    found = []
    for node, size in zip(row, rounds_share([as_part(node) for node in row], width)):
        found.append((node, begin, size))
        for inner in node.rows:
            found += slow_places(inner, begin, size)
        begin += size
    return found


class SlowLayout:
    """What slow_places needs for a tree, found once for all widths."""

    def __init__(self, tree):
        self.row = self.prepared(tree)

    def prepared(self, row):
        return [(node, as_part(node), [self.prepared(inner) for inner in node.rows]) for node in row]

    def placed(self, row, begin, width):
        found = []
        for (node, _, rows), size in zip(row, rounds_share([numbers for _, numbers, _ in row], width)):
            found.append((node, begin, size))
            for inner in rows:
                found += self.placed(inner, begin, size)
            begin += size
        return found

    def places(self, width):
        """The node, the begin and the size of each part."""
        return self.placed(self.row, Fraction(0), Fraction(width))

    def box_sizes(self, width):
        return {node.name: size for node, _, size in self.places(width) if node.numbers}

    def pixels(self, width, boxes_only=False):
        """The tuples of the name, the pixel begin and the pixel size of all names."""
        found = []
        for node, begin, size in self.places(width):
            if node.name and (node.numbers or not boxes_only):
                edge = math.floor(begin + Fraction(1, 2))
                found.append((node.name, edge, math.floor(begin + size + Fraction(1, 2)) - edge))
        return found


def nodes(row):
    """All parts, in the order of the text."""
    for node in row:
        yield node
        for inner in node.rows:
            yield from nodes(inner)


def layout_widths(source, tree):
    """Widths below, at, between and behind the bounds of a layout."""
    own, least, most = row_widths(tree)
    top = 3 * own + 20 if most is None else most
    found = [0, Fraction(least, 2), least, own, top, top + Fraction(5, 3), least + Fraction(1, 7), 10 ** 99]
    found += [Fraction(source.randint(0, 1000) * (top + 1), 1000) for _ in range(4)]
    return [Fraction(width) for width in found]


class Wrong(Exception):
    """The reading stops at a word."""


class SlowReader:
    """Reads a text by descent, row by row; at tells the word at which it stopped."""

    def __init__(self, words):
        self.words, self.at, self.seen, self.boxes = words, 0, set(), 0

    def peek(self):
        return self.words[self.at] if self.at < len(self.words) else None

    def take_name(self, name):
        if name is not None:
            if name in self.seen:
                raise Wrong
            self.seen.add(name)

    def row(self, around):
        """Read parts up to a word that is none; there must be one."""
        parts = 0
        while self.part(around, parts):
            parts += 1
        if parts == 0:
            raise Wrong

    def part(self, around, parts):
        word = self.peek()
        if word is None:
            return False
        box, opening = BOX_WORD.fullmatch(word), OPENING.fullmatch(word)
        if not box and not opening:
            return False
        if parts == 40:
            raise Wrong
        if box:
            self.box(box)
        else:
            self.bracket(opening, around)
        return True

    def box(self, found):
        name, *numbers = found.groups()
        wish, least, most, grow, shrink = [None if number is None else int(number) for number in numbers]
        if max(wish, least or 0, most or 0) > GREAT or max(grow or 0, shrink or 0) > HEAVY:
            raise Wrong
        if most is not None and most < (least or 0) or self.boxes == 120:
            raise Wrong
        self.take_name(name)
        self.boxes += 1
        self.at += 1

    def bracket(self, found, around):
        if around == 8:
            raise Wrong
        self.take_name(found.group(1))
        self.at += 1
        self.row(around + 1)
        rows = 1
        while found.group(2) == "{" and self.peek() == "|" and rows < 8:
            self.at += 1
            self.row(around + 1)
            rows += 1
        closing = CLOSING.fullmatch(self.peek() or "")
        if not closing or found.group(2) + closing.group(1) not in ("[]", "{}") or found.group(2) == "{" and rows == 1:
            raise Wrong
        if any(int(weight or 0) > HEAVY for weight in closing.groups()[1:]):
            raise Wrong
        self.at += 1


def wrong_word(text):
    """The number of the first wrong word, or of the words if a bracket is open; None for a layout text."""
    reader = SlowReader(text.split(" "))
    try:
        reader.row(0)
    except Wrong:
        return reader.at
    return reader.at if reader.at < len(reader.words) else None
