"""Values that are wrong for the parameters of the program."""

from fractions import Fraction

from boxrows.boxes import Box


class EqualToAll:
    """A value that says that it equals each other one."""

    def __eq__(self, other):
        return True


NO_NUMBERS = [None, True, False, "1", b"1", 1.0, 1.5, Fraction(1), [], {}, set(), (), object(), int, Box(1)]

NO_FRACTIONS = [
    (1,), (1, 2, 3), [1, 2], (2, 4), (0, 2), (-4, 2), (3, 0), (1, 0), (-1, 0), (0, 0), (1, -2), (-1, -2), (0, -1),
    (True, 2), (1, True), (False, 1), (1.0, 2), (1, 2.0), ("1", 2), (None, 1), (1, None), ((1, 2), 1),
]

WRONG_BOXES = [
    None, True, 3, "box", Box(1), [], (), (Box(1),), {0: Box(1)}, {1}, [Box(1)] * 41, [Box(1), None],
    [None], [Box], [Box(1), (1, 0, None, 0, 0)], [[Box(1)]], [Box(1)] * 40 + [3], iter([Box(1)]),
]

WRONG_WIDTHS = NO_NUMBERS + NO_FRACTIONS + [-1, -(10 ** 40), (-1, 2), (-1, 1), (-(10 ** 40), 3)]

WRONG_NUMBERS = NO_NUMBERS + NO_FRACTIONS + [-1, -(10 ** 40), (1, 1), (1, 2), (0, 1)]


def wrong_indexes(many):
    return WRONG_NUMBERS + [many, many + 1, 10 ** 40]


def wrong_shares(many):
    """Wrong values for the shares of so many boxes."""
    good = (1, 2)
    rest = [good] * (many - 1)
    lists = [[], rest, [good] * (many + 1), tuple([good] * many), {at: good for at in range(many)}]
    items = NO_NUMBERS + NO_FRACTIONS + [0, 1, -1, (-1, 2), (-1, 1)]
    return [None, True, 1, "1", good] + lists + [[item] + rest for item in items] + [rest + [item] for item in items]
