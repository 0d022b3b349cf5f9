"""Shelves: a width and a row of boxes with names that change, with undo."""

from boxrows.boxes import MOST_BOXES, WIDEST, Box, wide_box
from boxrows.drags import dragged
from boxrows.errors import InvalidBox, InvalidName, InvalidNumber, InvalidOperation, NameTaken, Nothing, TooLarge
from boxrows.pixels import pixel_place
from boxrows.ratios import ZERO, is_int, plus
from boxrows.shares import check_index, check_number, check_whole, share, spare
from boxrows.words import is_name

# How many arguments each call has in a preview.
STEPS = {"put": 2, "change": 2, "move": 2, "take": 1, "resize": 1, "drag": 2}


class Shelf:
    """A shelf; at first it has no box."""

    # _row is a list of tuples (name, box); it is replaced, never changed, so _done can
    # hold the earlier ones: a tuple (call, width, row) for each call that can be undone.
    # _frame is the border of a framed shelf, None for any other one.
    def __init__(self, whole):
        check_whole(whole)
        self._width = whole
        self._frame = None
        self._row = []
        self._done = []

    @property
    def width_now(self):
        """The whole width."""
        return self._width

    @property
    def names(self):
        """The names in the row."""
        return [name for name, _ in self._row]

    @property
    def shares_now(self):
        """The tuples (name, size) of all boxes."""
        return [(name, size) for (name, _), size in zip(self._row, sizes_on(self))]

    @property
    def pixels_now(self):
        """The tuples (name, pixel begin, pixel size) of all boxes."""
        found = []
        left, begin = self._frame or 0, ZERO
        for name, size in self.shares_now:
            _, edge, many = pixel_place(name, begin, size)
            found.append((name, left + edge, many))
            begin = plus(begin, size)
        return found

    def __len__(self):
        return len(self._row)

    def __eq__(self, other):
        return (
            isinstance(other, Shelf)
            and self._frame == other._frame
            and self._width == other._width
            and self._row == other._row
        )

    def put(self, name, box, *, at=None):
        """Put a box at a place of the row, for None at its end."""
        check_new_name(name)
        check_box(box)
        place = len(self._row) if at is None else at
        check_index(place, len(self._row) + 1)
        if name in self.names:
            raise NameTaken("the name is in the row")
        if len(self._row) == MOST_BOXES:
            raise TooLarge(MOST_BOXES)
        return change_row(self, "put", self._row[:place] + [(name, box)] + self._row[place:])

    def change(self, name, box):
        """Give a name another box."""
        place = place_of(self, name)
        check_box(box)
        return change_row(self, "change", self._row[:place] + [(name, box)] + self._row[place + 1:])

    def move(self, name, index):
        """Take a box to a place of the row, counted without it."""
        place = place_of(self, name)
        check_index(index, len(self._row))
        others = self._row[:place] + self._row[place + 1:]
        return change_row(self, "move", others[:index] + [self._row[place]] + others[index:])

    def take(self, name):
        """Remove a box, and return it."""
        place = place_of(self, name)
        box = self._row[place][1]
        change_row(self, "take", self._row[:place] + self._row[place + 1:])
        return box

    def resize(self, whole):
        """Give the shelf another width."""
        check_whole(whole)
        remember(self, "resize")
        self._width = whole
        return spare_on(self)

    def drag(self, name, number):
        """Drag the divider behind a box on pixels; each box then has its size for good."""
        place = place_of(self, name)
        if place + 1 == len(self._row):
            raise InvalidName("no divider lies behind the last box")
        if not is_int(number):
            raise InvalidNumber("an integer is required")
        sizes = [size for _, _, size in self.pixels_now]
        check_pixels(sizes)
        leasts = [min(size, box.least) for size, (_, box) in zip(sizes, self._row)]
        found = dragged(sizes, leasts, place, number)
        check_pixels(found)
        change_row(self, "drag", [(known, fixed(box, size)) for (known, box), size in zip(self._row, found)])
        return found

    def undo(self):
        """Undo the last call that is not undone."""
        if not self._done:
            raise Nothing("there is nothing to undo")
        _, width, row = self._done.pop()
        self._width = width
        self._row = row

    def log(self):
        """The names of the calls that are not undone."""
        return [done[0] for done in self._done]

    def preview(self, *steps):
        """What some calls would return, one after another."""
        for step in steps:
            check_step(step)
        trial = twin_of(self)
        return [perform(trial, step) for step in steps]


class FramedShelf(Shelf):
    """A shelf with a border at both ends."""

    def __init__(self, whole, number):
        Shelf.__init__(self, whole)
        check_number(number)
        self._frame = number

    @property
    def border(self):
        """How many pixels wide the border is, at each end."""
        return self._frame

    def __eq__(self, other):
        return (
            isinstance(other, FramedShelf)
            and self._frame == other._frame
            and self._width == other._width
            and self._row == other._row
        )


def check_new_name(name):
    """Raise InvalidName unless the value is 1 to 8 letters from a to z."""
    if not isinstance(name, str) or not is_name(name):
        raise InvalidName("1 to 8 letters from a to z are required")


def check_box(box):
    """Raise InvalidBox unless the value is a box."""
    if not isinstance(box, Box):
        raise InvalidBox("a box is required")


def check_pixels(sizes):
    """Raise TooLarge if a size is greater than the wish of a box can be."""
    if max(sizes) > WIDEST:
        raise TooLarge(WIDEST)


def check_step(step):
    """Raise InvalidOperation unless the value is a tuple of the name of a call and its arguments."""
    if not isinstance(step, tuple) or not step or not isinstance(step[0], str):
        raise InvalidOperation("a tuple of a name and arguments is required")
    if step[0] not in STEPS or len(step) != 1 + STEPS[step[0]]:
        raise InvalidOperation("a call with the right number of arguments is required")


def place_of(shelf, name):
    """The place of a name in the row; InvalidName if it is not there."""
    names = shelf.names
    if not isinstance(name, str) or name not in names:
        raise InvalidName("a name of the row is required")
    return names.index(name)


def room_on(shelf):
    """The width that the boxes share."""
    return max(0, shelf.width_now - 2 * (shelf._frame or 0))


def boxes_on(shelf):
    """The boxes in the row."""
    return [box for _, box in shelf._row]


def sizes_on(shelf):
    """The sizes of the boxes."""
    boxes = boxes_on(shelf)
    return share(boxes, room_on(shelf)) if boxes else []


def spare_on(shelf):
    """The spare width; without boxes the width that they would share."""
    boxes = boxes_on(shelf)
    return spare(boxes, room_on(shelf)) if boxes else (room_on(shelf), 1)


def remember(shelf, call):
    """Note how the shelf is ahead of a call."""
    shelf._done.append((call, shelf._width, shelf._row))


def change_row(shelf, call, row):
    """Give the shelf another row by a call; returns the spare width."""
    remember(shelf, call)
    shelf._row = row
    return spare_on(shelf)


def fixed(box, size):
    """The box with a size as its wish, and without weights."""
    return wide_box(size, box.least, box.most, 0, 0)


def twin_of(shelf):
    """A shelf that has the same boxes and shares the same width."""
    twin = Shelf(shelf.width_now)
    twin._frame = shelf._frame
    twin._row = shelf._row
    return twin


def perform(shelf, step):
    """Perform a call given as a tuple, and return what it returns."""
    call, first = step[0], step[1]
    if call == "take":
        return shelf.take(first)
    if call == "resize":
        return shelf.resize(first)
    if call == "put":
        return shelf.put(first, step[2])
    if call == "change":
        return shelf.change(first, step[2])
    if call == "move":
        return shelf.move(first, step[2])
    return shelf.drag(first, step[2])
