"""The parts of rows, and how they are read from the words of a layout text, and written."""

from boxrows.boxes import MOST_BOXES, greatest_width, least_width, own_width, wide_box
from boxrows.errors import InvalidText
from boxrows.words import box_in, box_word, is_name, weights_in, weights_text

MOST_ROWS = 8
MOST_BOXES_OF_TEXT = 120
MOST_AROUND = 8


class Part:
    """A part of a row: a box, or rows that are each given the whole size of the part."""

    # rows is empty for a box and has one row for a row, more for a stack; a row is a
    # list of parts. box tells how the part shares the width of the row around it.
    def __init__(self, name, rows, box):
        self.name = name
        self.rows = rows
        self.box = box


def boxes_of(row):
    """The boxes that share the width of a row, one for each part."""
    return [part.box for part in row]


def box_around(rows, grow, shrink):
    """The box for a row or a stack with some rows: the widths are the greatest ones of the rows."""
    leasts = [least_width(boxes_of(row)) for row in rows]
    owns = [own_width(boxes_of(row)) for row in rows]
    mosts = [greatest_width(boxes_of(row)) for row in rows]
    most = None if None in mosts else max(mosts)
    return wide_box(max(owns), max(leasts), most, grow, shrink)


class Reader:
    """Reads the words of a layout text, one after the other; each method tells whether its word is right."""

    # around holds the open rows and stacks, from the outermost one on, each with the
    # sign that closes it.
    def __init__(self):
        self.outer = []
        self.around = []
        self.known = []
        self.boxes = []

    def innermost(self):
        """The row to which the next part belongs."""
        return self.around[-1][0].rows[-1] if self.around else self.outer

    def closing_sign(self):
        """The sign that closes the innermost open bracket; the empty string without one."""
        return self.around[-1][1] if self.around else ""

    def has_place(self, name):
        """Whether the row takes one more part, with a name, or None."""
        return len(self.innermost()) < MOST_BOXES and name not in self.known

    def put(self, part):
        """Put a part into the row."""
        row = self.innermost()
        row.append(part)
        if part.name is not None:
            self.known.append(part.name)

    def read_box(self, word):
        """Read a word for a box."""
        found = box_in(word)
        if found is None or len(self.boxes) == MOST_BOXES_OF_TEXT or not self.has_place(found[0]):
            return False
        name, box = found
        self.put(Part(name, [], box))
        self.boxes.append(box)
        return True

    def read_opening(self, word):
        """Read a word that opens a row or a stack."""
        name = word[:-1]
        if name and not is_name(name):
            return False
        if len(self.around) == MOST_AROUND or not self.has_place(name or None):
            return False
        part = Part(name or None, [[]], None)
        self.put(part)
        self.around.append((part, "]" if word[-1] == "[" else "}"))
        return True

    def read_bar(self):
        """Read the sign between two rows of a stack."""
        if self.closing_sign() != "}" or not self.innermost():
            return False
        rows = self.around[-1][0].rows
        if len(rows) == MOST_ROWS:
            return False
        rows.append([])
        return True

    def read_closing(self, word):
        """Read a word that closes a row or a stack."""
        weights = weights_in(word[1:])
        if weights is None or word[0] != self.closing_sign() or not self.innermost():
            return False
        part = self.around[-1][0]
        if word[0] == "}" and len(part.rows) == 1:
            return False
        grow, shrink = weights
        part.box = box_around(part.rows, grow, shrink)
        self.around.pop()
        return True

    def read(self, word):
        """Read a word."""
        if word == "|":
            return self.read_bar()
        if word[:1] in ("]", "}"):
            return self.read_closing(word)
        if word[-1:] in ("[", "{"):
            return self.read_opening(word)
        return self.read_box(word)


def read_text(text):
    """The reader that has read a layout text; InvalidText if it is none."""
    if not isinstance(text, str):
        raise InvalidText(None)
    reader = Reader()
    words = text.split(" ")
    for index, word in enumerate(words):
        if not reader.read(word):
            raise InvalidText(index)
    if reader.around:
        raise InvalidText(len(words))
    return reader


def part_words(part):
    """The words for a part."""
    if not part.rows:
        return [box_word(part.name, part.box)]
    opening, closing = ("[", "]") if len(part.rows) == 1 else ("{", "}")
    words = [(part.name or "") + opening]
    for at, row in enumerate(part.rows):
        if at > 0:
            words.append("|")
        words.extend(row_words(row))
    return words + [closing + weights_text(part.box.grow, part.box.shrink)]


def row_words(row):
    """The words for the parts of a row."""
    return [word for part in row for word in part_words(part)]
