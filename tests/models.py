"""Slow drags and a slow shelf for the tests: lists of names and numbers, and all earlier ones for undo."""

import math
from fractions import Fraction

from boxrows.boxes import Box
from tests.rows import numbers, pair, rounds_share


def box_text(name, box):
    """The word for a box, each sign left out with its number if that is 0."""
    wish, least, most, grow, shrink = numbers(box)
    signs = [("/", least or None), ("-", most), ("+", grow or None), ("~", shrink or None)]
    return f"{name}:{wish}" + "".join(f"{sign}{number}" for sign, number in signs if number is not None)


def slow_dragged(sizes, leasts, index, number):
    """The sizes when a divider is dragged, box by box, word by word as in section 12."""
    sizes = list(sizes)
    givers = range(index + 1, len(sizes)) if number > 0 else range(index, -1, -1)
    taker, rest = (index, number) if number > 0 else (index + 1, -number)
    for giver in givers:
        given = min(rest, sizes[giver] - leasts[giver])
        sizes[giver] -= given
        sizes[taker] += given
        rest -= given
    return sizes


class SlowShelf:
    """A shelf as section 13 tells of it; border is None without one."""

    def __init__(self, whole, border=None):
        self.whole, self.border, self.row, self.earlier = whole, border, [], []

    def names(self):
        return [name for name, _ in self.row]

    def room(self):
        return max(0, self.whole - 2 * (self.border or 0))

    def sizes(self):
        return rounds_share([box for _, box in self.row], self.room()) if self.row else []

    def shares(self):
        return [(name, pair(size)) for name, size in zip(self.names(), self.sizes())]

    def pixels(self):
        found, begin = [], Fraction(0)
        for name, size in zip(self.names(), self.sizes()):
            edge, end = (math.floor(place + Fraction(1, 2)) for place in (begin, begin + size))
            found.append((name, edge + (self.border or 0), end - edge))
            begin += size
        return found

    def spare(self):
        return pair(self.room() - sum(self.sizes()))

    def keep(self, call):
        self.earlier.append((call, self.whole, list(self.row)))

    def put(self, name, box, at=None):
        self.keep("put")
        self.row.insert(len(self.row) if at is None else at, (name, box))
        return self.spare()

    def change(self, name, box):
        self.keep("change")
        self.row[self.names().index(name)] = (name, box)
        return self.spare()

    def move(self, name, index):
        self.keep("move")
        self.row.insert(index, self.row.pop(self.names().index(name)))
        return self.spare()

    def take(self, name):
        self.keep("take")
        return self.row.pop(self.names().index(name))[1]

    def resize(self, whole):
        self.keep("resize")
        self.whole = whole
        return self.spare()

    def drag(self, name, number):
        self.keep("drag")
        sizes = [size for _, _, size in self.pixels()]
        leasts = [min(size, box.least) for size, (_, box) in zip(sizes, self.row)]
        found = slow_dragged(sizes, leasts, self.names().index(name), number)
        self.row = [(name, Box(size, box.least, box.most)) for size, (name, box) in zip(found, self.row)]
        return found

    def undo(self):
        _, self.whole, self.row = self.earlier.pop()

    def log(self):
        return [call for call, _, _ in self.earlier]


def any_call(source, slow, any_box, letters="abcdefgh"):
    """A call that the shelf takes, as a tuple of its name and its arguments; put may have a place."""
    names = slow.names()
    free = [name for name in letters if name not in names]
    calls = ["resize"] + ["put"] * (2 * bool(free)) + ["change", "move", "take"] * bool(names) + ["drag", "drag"] * (len(names) > 1)
    call = source.choice(calls)
    if call == "put":
        place = source.choice([(), (source.randint(0, len(names)),)])
        return (call, source.choice(free), any_box(source)) + place
    if call == "resize":
        return (call, source.choice([0, source.randint(0, 60), source.randint(0, 10 ** 6)]))
    name = source.choice(names[:-1] if call == "drag" else names)
    if call == "take":
        return (call, name)
    other = {"change": lambda: any_box(source), "move": lambda: source.randrange(len(names)),
             "drag": lambda: source.choice([0, source.randint(-9, 9), source.randint(-(10 ** 7), 10 ** 7)])}
    return (call, name, other[call]())
