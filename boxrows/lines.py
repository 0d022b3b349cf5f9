"""Lines: a pattern of boxes, repeated very many times, broken into lines."""

from boxrows.boxes import WIDEST, box_times, check_boxes, in_bounds
from boxrows.errors import InvalidGap, InvalidNumber, InvalidTimes
from boxrows.ratios import is_int, over
from boxrows.shares import check_index, check_whole, share

MOST_TIMES = 10 ** 30


def check_pattern(boxes, gap, times):
    """Raise InvalidBoxes, InvalidGap or InvalidTimes unless these are a pattern, a gap and a number of times."""
    check_boxes(boxes)
    if not in_bounds(gap, WIDEST):
        raise InvalidGap("an integer from 0 to 10 ** 30 is required")
    if not in_bounds(times, MOST_TIMES) or times == 0:
        raise InvalidTimes("an integer from 1 to 10 ** 30 is required")


def boxes_that_fit(costs, place, room):
    """How many boxes, one after another from a place of the pattern on, cost at most room, if some cost anything."""
    patterns, rest = divmod(room, sum(costs))
    many, at = patterns * len(costs), place
    while costs[at] <= rest:
        rest -= costs[at]
        many += 1
        at = (at + 1) % len(costs)
    return many


class Lines:
    """The lines of a pattern, each given by its first box."""

    # How long a line is depends only on its place: where it begins in the pattern.
    # again is the first line whose place comes a second time, so from there on the same
    # lines come again and again. starts holds the first boxes of all lines up to the one
    # with which they begin to do so.
    def __init__(self, boxes, gap, times, whole):
        self.wide = len(boxes)
        self.amount = len(boxes) * times
        # With one more gap behind the last box, each box costs the same everywhere.
        self.costs = [box.own + gap for box in boxes]
        self.room = whole + gap
        self.starts = [0]
        self.again = None
        while self.again is None:
            self.add_line()

    def length_at(self, place):
        """How many boxes a line has that begins at a place, if there are so many."""
        if sum(self.costs) == 0:
            return self.amount
        return max(1, boxes_that_fit(self.costs, place, self.room))

    def add_line(self):
        """Find where the line behind the last known one begins."""
        begin = self.starts[-1] + self.length_at(self.starts[-1] % self.wide)
        places = [start % self.wide for start in self.starts]
        self.starts.append(begin)
        if begin % self.wide in places:
            self.again = places.index(begin % self.wide)

    def turn(self):
        """After how many lines, and how many boxes, the same places come again."""
        return (len(self.starts) - 1 - self.again, self.starts[-1] - self.starts[self.again])

    def begin(self, index):
        """The first box of a line."""
        if index < len(self.starts):
            return self.starts[index]
        lines, boxes = self.turn()
        turns, more = divmod(index - self.again, lines)
        return self.starts[self.again + more] + turns * boxes

    def line_with(self, box):
        """The number of the line in which a box lies."""
        lines, boxes = self.turn()
        turns = max(0, (box - self.starts[self.again]) // boxes)
        rest = box - turns * boxes
        return turns * lines + len([start for start in self.starts if start <= rest]) - 1

    def number(self):
        """The number of lines."""
        return self.line_with(self.amount - 1) + 1

    def length(self, index):
        """The number of boxes in a line."""
        begin = self.begin(index)
        return min(self.length_at(begin % self.wide), self.amount - begin)

    def times_full(self, index):
        """How many lines ahead of the last one are the line with an index, or this one again."""
        ahead = self.number() - 1 - index
        if index < self.again:
            return 1 if ahead > 0 else 0
        lines, _ = self.turn()
        return max(0, -(-ahead // lines))


def lines_of(boxes, gap, times, whole):
    """The lines, behind the errors of all arguments."""
    check_pattern(boxes, gap, times)
    check_whole(whole)
    return Lines(boxes, gap, times, whole)


def count_lines(boxes, gap, times, whole):
    """The number of lines."""
    return lines_of(boxes, gap, times, whole).number()


def line_of(boxes, gap, times, whole, index):
    """The number of the line in which a box lies, and the place of the box in it."""
    lines = lines_of(boxes, gap, times, whole)
    check_index(index, lines.amount)
    line = lines.line_with(index)
    return (line, index - lines.begin(line))


def line_at(boxes, gap, times, whole, index):
    """The first box of a line, and its number of boxes."""
    lines = lines_of(boxes, gap, times, whole)
    check_index(index, lines.number())
    return (lines.begin(index), lines.length(index))


def line_shares(boxes, gap, times, whole, index):
    """For each box of the pattern its size in a line, or None if it is not there."""
    first, length = line_at(boxes, gap, times, whole, index)
    many = len(boxes)
    # How often each box is there; equal boxes side by side share like one that is as
    # many times as great.
    times_there = [(length - (at - first) % many + many - 1) // many for at in range(many)]
    there = [at for at in range(many) if times_there[at] > 0]
    row = [box_times(boxes[at], times_there[at]) for at in there]
    sizes = share(row, whole - gap * (length - 1))
    found = {at: over(size, (times_there[at], 1)) for at, size in zip(there, sizes)}
    return [found.get(at) for at in range(many)]


def line_kinds(boxes, gap, times, whole):
    """The ascending tuples (place, boxes, lines): how many lines begin at a place and have so many boxes."""
    lines = lines_of(boxes, gap, times, whole)
    kinds = {}
    for index in range(len(lines.starts) - 1):
        kind = (lines.starts[index] % lines.wide, lines.starts[index + 1] - lines.starts[index])
        kinds[kind] = lines.times_full(index)
    last = lines.number() - 1
    kind = (lines.begin(last) % lines.wide, lines.length(last))
    kinds[kind] = kinds.get(kind, 0) + 1
    return sorted([(place, many, kinds[(place, many)]) for place, many in kinds if kinds[(place, many)] > 0])


def least_for(boxes, gap, times, number):
    """The least whole width that leads to at most so many lines."""
    check_pattern(boxes, gap, times)
    if not is_int(number) or number < 1:
        raise InvalidNumber("an integer from 1 on is required")
    # With the greatest one of these widths, all boxes are in one line.
    low, high = -1, times * sum([box.own + gap for box in boxes])
    while high - low > 1:
        middle = (low + high) // 2
        if Lines(boxes, gap, times, middle).number() <= number:
            high = middle
        else:
            low = middle
    return high
