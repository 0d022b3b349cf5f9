"""The errors of the package."""


class RowError(ValueError):
    """The base class of all errors of the package."""


class InvalidText(RowError):
    """A layout text has a wrong word; index is its number, or None if the value is not a string."""

    def __init__(self, index):
        super().__init__(f"the wrong word has the index {index}")
        self.index = index


class TooLarge(RowError):
    """Something would be greater, or more, than limit."""

    def __init__(self, limit):
        super().__init__(f"more than {limit}")
        self.limit = limit


class InvalidBox(RowError):
    """The numbers are not those of a box, or the value is not a box."""


class InvalidBoxes(RowError):
    """The value is not a list of 1 to 40 boxes."""


class InvalidLayout(RowError):
    """The value is not a layout."""


class InvalidName(RowError):
    """The value is not a name that fits here."""


class InvalidWidth(RowError):
    """The value is not a width that fits here."""


class InvalidLevel(RowError):
    """The value is neither an integer nor a fraction."""


class InvalidIndex(RowError):
    """The value is not the index of one of the things that it counts."""


class InvalidNumber(RowError):
    """The value is not a number that fits here."""


class InvalidShares(RowError):
    """The value is not a list of as many fractions as boxes, none negative."""


class InvalidCurve(RowError):
    """The points and the slope are not those of a curve, or the value is not a curve."""


class OtherNames(RowError):
    """The boxes of two layouts have different names."""


class NoWidth(RowError):
    """There are not so many widths."""


class InvalidGap(RowError):
    """The value is not a gap."""


class InvalidTimes(RowError):
    """The value is not a number of times."""


class InvalidSizes(RowError):
    """The values are not sizes with their least widths."""


class InvalidDrags(RowError):
    """The value is not a list of drags."""


class MixedDrags(RowError):
    """The drags have different dividers and different directions."""


class InvalidGoal(RowError):
    """The value is not a list of sizes to which drags can lead."""


class NameTaken(RowError):
    """A box on the shelf has this name."""


class InvalidOperation(RowError):
    """The value is not a call with its arguments."""


class Nothing(RowError):
    """There is nothing to undo."""


class InvalidCommand(RowError):
    """The value is not a command."""
