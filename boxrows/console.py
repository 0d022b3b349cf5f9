"""Console: a shelf that is told what to do by commands."""

from boxrows.errors import InvalidCommand, InvalidName
from boxrows.rounds import rounds
from boxrows.shelves import FramedShelf, Shelf, boxes_on, room_on, spare_on
from boxrows.words import box_in, box_word, is_name, is_number_text

# The greatest number with 100 digits.
GREATEST = 10 ** 50 * 10 ** 50 - 1

# The forms of all commands: N is a number, INTEGER one that may have a minus.
FORMS = (
    ("start", "N"),
    ("frame", "N", "N"),
    ("put", "BOX"),
    ("put", "BOX", "N"),
    ("change", "BOX"),
    ("move", "NAME", "N"),
    ("resize", "N"),
    ("take", "NAME"),
    ("drag", "NAME", "INTEGER"),
    ("undo",),
    ("names",),
    ("size", "NAME"),
    ("pixel", "NAME"),
    ("rounds",),
    ("spare",),
)
# Calls that return the spare width, and other calls that change the shelf.
CHANGES = ("put", "change", "move", "resize")
ACTIONS = ("take", "drag", "undo")


class Console:
    """Executes commands on a shelf of its own."""

    def __init__(self):
        self._shelf = Shelf(0)

    def execute(self, command):
        """Execute a command, and return the answer."""
        call, values = read_command(command)
        if call == "start":
            self._shelf = Shelf(values[0])
            return "ok"
        if call == "frame":
            self._shelf = FramedShelf(values[0], values[1])
            return "ok"
        if call in CHANGES:
            return fraction_text(change(self._shelf, call, values))
        if call in ACTIONS:
            return act(self._shelf, call, values)
        return tell(self._shelf, call, values)


def values_of(kind, word):
    """The values that a word of some kind gives; None if it is not of this kind."""
    if kind == "NAME":
        return [word] if is_name(word) else None
    if kind == "BOX":
        found = box_in(word)
        return None if found is None else list(found)
    is_negative = kind == "INTEGER" and word[:1] == "-"
    digits = word[1:] if is_negative else word
    if not is_number_text(digits, GREATEST):
        return None
    return [-int(digits)] if is_negative else [int(digits)]


def values_in(form, words):
    """The values that the words of a command give; None if they do not have a form."""
    if len(words) != len(form) or words[0] != form[0]:
        return None
    found = []
    for kind, word in zip(form[1:], words[1:]):
        values = values_of(kind, word)
        if values is None:
            return None
        found.extend(values)
    return found


def read_command(command):
    """The first word of a command, and the values of the others; InvalidCommand if it is none."""
    words = command.split(" ") if isinstance(command, str) else []
    for form in FORMS:
        values = values_in(form, words)
        if values is not None:
            return (form[0], values)
    raise InvalidCommand("a command is required")


def fraction_text(value):
    """A fraction in an answer."""
    p, q = value
    return f"{p}" if q == 1 else f"{p}/{q}"


def joined_with_spaces(values):
    """Values in an answer."""
    return " ".join([str(value) for value in values])


def change(shelf, call, values):
    """Perform a call that returns the spare width."""
    if call == "put":
        return shelf.put(values[0], values[1], at=values[2] if len(values) == 3 else None)
    if call == "change":
        return shelf.change(values[0], values[1])
    if call == "move":
        return shelf.move(values[0], values[1])
    return shelf.resize(values[0])


def act(shelf, call, values):
    """Perform another call that changes the shelf; returns the answer."""
    if call == "take":
        return box_word(values[0], shelf.take(values[0]))
    if call == "drag":
        return joined_with_spaces(shelf.drag(values[0], values[1]))
    shelf.undo()
    return "ok"


def tell(shelf, call, values):
    """The answer to a command that changes nothing."""
    if call == "size":
        return fraction_text(row_with(shelf.shares_now, values[0])[1])
    if call == "pixel":
        return joined_with_spaces(row_with(shelf.pixels_now, values[0])[1:])
    if call == "names":
        return " ".join(shelf.names) or "-"
    if call == "rounds":
        boxes = boxes_on(shelf)
        return f"{len(rounds(boxes, room_on(shelf))) - 1}" if boxes else "-"
    return fraction_text(spare_on(shelf))


def row_with(rows, name):
    """The tuple that begins with a name; InvalidName if there is none."""
    for row in rows:
        if row[0] == name:
            return row
    raise InvalidName("a name of the row is required")
