"""Counts: how many whole widths lead to a pixel size, and which ones."""

from boxrows.curves import first_above
from boxrows.edges import cut, stretches
from boxrows.errors import InvalidIndex, InvalidWidth, NoWidth
from boxrows.layouts import check_layout, way_to
from boxrows.places import begin_curve, size_curve
from boxrows.ratios import is_int
from boxrows.shares import check_number, check_whole


class Run:
    """Whole widths of a stretch at which the pixel size is one of two neighbouring numbers."""

    # Each pixel size times sign, and plus more, is 1 at the widths that are counted,
    # 0 at the other ones.
    def __init__(self, stretch, sign, more):
        self.stretch = stretch
        self.sign = sign
        self.more = more

    def counted(self, many):
        """How many of the first many widths are counted."""
        return self.sign * self.stretch.total(many) + self.more * many

    def total(self):
        """How many widths are counted; None if they have no end."""
        if self.stretch.last is not None:
            return self.counted(self.stretch.many())
        # Without an end, the size stays; so pixel sizes come again after each period.
        return 0 if self.counted(self.stretch.period()) == 0 else None

    def reach(self, index):
        """So many widths that more than index of them are counted; index is less than the total."""
        if self.stretch.last is not None:
            return self.stretch.many()
        period = self.stretch.period()
        return (index // self.counted(period) + 1) * period

    def nth(self, index):
        """The counted width with an index that is less than the total."""
        low, high = 0, self.reach(index)
        while high - low > 1:
            middle = (low + high) // 2
            if self.counted(middle) > index:
                high = middle
            else:
                low = middle
        return self.stretch.first + low


def edges_of(layout, name):
    """The stretches for the begin and the end of a part."""
    begin = begin_curve(layout, name)
    return stretches(begin, begin + size_curve(layout, name))


def sizes_between(layout, name, number):
    """The stretches at which the size is above number, but not above the next integer."""
    size = size_curve(layout, name)
    first, behind = first_above(size, number), first_above(size, number + 1)
    if first is None:
        return []
    return cut(edges_of(layout, name), first, None if behind is None else behind - 1)


def runs_below(layout, name, number):
    """The runs that count a pixel size where the size itself is not above it."""
    return [Run(stretch, 1, 1 - number) for stretch in sizes_between(layout, name, number - 1)]


def runs_above(layout, name, number):
    """The runs that count a pixel size where the size itself is above it."""
    return [Run(stretch, -1, number + 1) for stretch in sizes_between(layout, name, number)]


def check_range(low, high):
    """Raise InvalidWidth unless both are integers from 0 on, the second one not less than the first one."""
    check_whole(low)
    check_whole(high)
    if high < low:
        raise InvalidWidth("the greater one of two widths stands last")


def count_in(run, low, high):
    """How many widths of a run from low to high are counted."""
    part = run.stretch.part(low, high)
    return 0 if part is None else Run(part, run.sign, run.more).total()


def count_widths(layout, name, number, low, high):
    """How many whole widths from low to high lead to a pixel size."""
    check_layout(layout)
    way_to(layout, name)
    check_number(number)
    check_range(low, high)
    runs = runs_below(layout, name, number) + runs_above(layout, name, number)
    return sum([count_in(run, low, high) for run in runs])


def nth_width(layout, name, number, index):
    """The whole width with an index among all that lead to a pixel size."""
    check_layout(layout)
    way_to(layout, name)
    check_number(number)
    if not is_int(index) or index < 0:
        raise InvalidIndex("an integer from 0 on is required")
    for run in runs_below(layout, name, number) + runs_above(layout, name, number):
        total = run.total()
        if total is None or index < total:
            return run.nth(index)
        index -= total
    raise NoWidth("there are not so many widths with this pixel size")


def first_from(layout, name, number):
    """The least whole width from which on the pixel size is never less than a number, or None."""
    check_layout(layout)
    way_to(layout, name)
    check_number(number)
    # Where the size is at most the next smaller number, the pixel size is, too; where
    # it is at least this number, the pixel size is, too.
    for run in reversed(runs_above(layout, name, number - 1)):
        total = run.total()
        if total is None:
            return None
        if total > 0:
            return run.nth(total - 1) + 1
    return first_above(size_curve(layout, name), number - 1)


def total_pixels(layout, name, low, high):
    """The sum of the pixel sizes at all whole widths from low to high."""
    check_layout(layout)
    way_to(layout, name)
    check_range(low, high)
    return sum([stretch.total(stretch.many()) for stretch in cut(edges_of(layout, name), low, high)])
