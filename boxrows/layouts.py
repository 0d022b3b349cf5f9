"""Layouts: rows of boxes, of rows, and of rows over rows, written as texts."""

from boxrows.errors import InvalidLayout, InvalidName
from boxrows.parts import box_around, boxes_of, read_text


class Layout:
    """A layout, made of its text."""

    def __init__(self, text):
        reader = read_text(text)
        self._text = text
        self._names = reader.known
        self._boxes = reader.boxes
        self._row = reader.outer
        self._whole = box_around([reader.outer], 0, 0)

    @property
    def text(self):
        """The text that the layout was made of."""
        return self._text

    @property
    def names(self):
        """The names of all boxes, rows and stacks that have one, in the order of the text."""
        return list(self._names)

    @property
    def least(self):
        """The least width."""
        return self._whole.least

    @property
    def own(self):
        """The own width."""
        return self._whole.own

    @property
    def most(self):
        """The greatest width, or None."""
        return self._whole.most

    def __len__(self):
        return len(self._boxes)

    def __eq__(self, other):
        return isinstance(other, Layout) and self._text == other._text


def check_layout(layout):
    """Raise InvalidLayout unless the value is a layout."""
    if not isinstance(layout, Layout):
        raise InvalidLayout("a layout is required")


def outermost_row(layout):
    """The parts of the outermost row of a layout."""
    return layout._row


def way_in(row, name):
    """The rows and the indexes in them that lead from a row down to a part; None without the part."""
    for index, part in enumerate(row):
        if part.name == name:
            return [(row, index)]
        for inner in part.rows:
            way = way_in(inner, name)
            if way is not None:
                return [(row, index)] + way
    return None


def way_to(layout, name):
    """The rows and the indexes in them that lead to a part; InvalidName if none has this name."""
    way = way_in(outermost_row(layout), name) if isinstance(name, str) else None
    if way is None:
        raise InvalidName("the name of a part of the layout is required")
    return way


def row_place(layout, name):
    """The row around a row with a name, and the index in it; InvalidName if no row has this name."""
    row, index = way_to(layout, name)[-1]
    if len(row[index].rows) != 1:
        raise InvalidName("the name of a row is required")
    return (row, index)


def parts_of(layout, name):
    """The parts of a row, or for None of the outermost row, as boxes."""
    check_layout(layout)
    if name is None:
        return boxes_of(outermost_row(layout))
    row, index = row_place(layout, name)
    return boxes_of(row[index].rows[0])
