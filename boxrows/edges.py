"""Pixel edges of curves at whole widths, without going through them width by width."""

from math import lcm

from boxrows.curves import common_widths, pieces_at, pieces_of, value_on
from boxrows.ratios import ceiling

# A line is a tuple (a, b, m), m at least 1. It stands for floor((a * x + b) / m) at
# each integer x from 0 on.


def line_at(line, x):
    """The integer of a line at x."""
    a, b, m = line
    return (a * x + b) // m


def moved(line, by):
    """The line that begins at another x."""
    a, b, m = line
    return (a, b + a * by, m)


def line_sum(line, many):
    """The sum of the first many integers of a line that does not fall."""
    a, b, m = line
    total = 0
    while many > 0:
        total += many * (many - 1) // 2 * (a // m) + many * (b // m)
        a, b = a % m, b % m
        # What is left are points below a line; they are counted from the side: as
        # many rows as the line is high, with the axes taken for one another.
        top = a * many + b
        many = top // m
        a, b, m = m, top % m, a
    return total


def lowered(line, rise, start):
    """The line less rise at each step, and less start."""
    a, b, m = line
    return (a - rise * m, b - start * m, m)


def turned(line):
    """The line that tells, for y from 0 on, the least x at which a line is above y."""
    # The line starts at 0 and rises by less than 1 at each step.
    a, b, m = line
    return (m, m - b + a - 1, a)


def first_step(line):
    """The least x at which a line that starts at 0 and is not level is not 0."""
    a, b, m = line
    return -((b - m) // a) if a > 0 else b // -a + 1


def first_leaving(one, two):
    """The least x at which two lines that start at 0, one of them level or steep, differ, or None."""
    # With one line above the steps of y = x and the other one below them, or one of
    # them level, they differ as soon as one of them leaves its steps.
    rise = 1 if one[0] >= one[2] or two[0] >= two[2] else 0
    lines = [lowered(one, rise, 0), lowered(two, rise, 0)]
    return min([first_step(line) for line in lines if line[0] != 0], default=None)


def is_gentle(line):
    """Whether a line rises by less than 1 at each step, but is not level."""
    return 0 < line[0] < line[2]


def first_split(one, two, last):
    """The least x from 0 to last, or without end for None, at which two lines that do not fall differ, or None."""
    # Lines that rise by less than 1 differ first where the places of their steps
    # differ first; these places are lines, too, with smaller numbers. end is the last
    # step that counts then.
    turns = []
    found, end = 0, last
    while line_at(one, 0) == line_at(two, 0):
        rise, start = min(one[0] // one[2], two[0] // two[2]), line_at(one, 0)
        one, two = lowered(one, rise, start), lowered(two, rise, start)
        if not is_gentle(one) or not is_gentle(two):
            found = first_leaving(one, two)
            break
        end = None if end is None else max(line_at(one, end), line_at(two, end)) - 1
        if end is not None and end < 0:
            return None
        one, two = turned(one), turned(two)
        turns.append((one, two))
    if found is None:
        return None
    for one, two in reversed(turns):
        found = min(line_at(one, found), line_at(two, found))
    return found if last is None or found <= last else None


def edge_line(piece, first):
    """The line of the pixel edges of a piece at the whole widths from first on."""
    p, q = value_on(piece, (first, 1))
    rise, run = piece[2]
    m = 2 * lcm(q, run)
    return (m // run * rise, m // q * p + m // 2, m)


class Stretch:
    """Whole widths from first to last, or without end, at which the edges of two curves are lines."""

    def __init__(self, first, last, one, two):
        self.first = first
        self.last = last
        self.one = one
        self.two = two

    def many(self):
        """How many widths these are; only where they have an end."""
        return self.last - self.first + 1

    def first_difference(self):
        """The least one of these widths at which the edges of both curves differ, or None."""
        if self.one == self.two:
            return None
        more = first_split(self.one, self.two, None if self.last is None else self.last - self.first)
        return None if more is None else self.first + more

    def total(self, many):
        """The sum of the edges of the second curve less those of the first one, at the first many widths."""
        return line_sum(self.two, many) - line_sum(self.one, many)

    def period(self):
        """After so many widths both lines have risen by integers."""
        return lcm(self.one[2], self.two[2])

    def part(self, low, high):
        """The widths from low to high, or None for no end, of these ones; None if there are none."""
        first = max(self.first, low)
        ends = [last for last in (self.last, high) if last is not None]
        last = min(ends, default=None)
        if last is not None and last < first:
            return None
        return Stretch(first, last, moved(self.one, first - self.first), moved(self.two, first - self.first))


def stretches(one, two):
    """The stretches of whole widths for two curves, ascending; the last one has no end."""
    widths = common_widths(pieces_of(one), pieces_of(two))
    firsts = [ceiling(width) for width in widths]
    lefts, rights = pieces_at(pieces_of(one), widths), pieces_at(pieces_of(two), widths)
    found = []
    for at, first in enumerate(firsts):
        last = firsts[at + 1] - 1 if at + 1 < len(firsts) else None
        if last is None or first <= last:
            found.append(Stretch(first, last, edge_line(lefts[at], first), edge_line(rights[at], first)))
    return found


def cut(found, low, high):
    """The parts of some stretches from low to high, or without end for None."""
    parts = [stretch.part(low, high) for stretch in found]
    return [part for part in parts if part is not None]
