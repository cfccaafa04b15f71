"""The errors of the package.

The attributes of an error are what it was made with.
"""


class BowlError(ValueError):
    """A value is not what is wanted."""


class InvalidBowl(BowlError):
    """A Form that is a bowl is wanted."""

    def __init__(self, value):
        self.value = value


class InvalidForm(BowlError):
    """A Form is wanted."""

    def __init__(self, value):
        self.value = value


class InvalidLot(BowlError):
    """A Lot is wanted."""

    def __init__(self, value):
        self.value = value


class InvalidMakers(BowlError):
    """A list of 1 to 4 Tables of one size is wanted; position is None, or that of the first wrong one."""

    def __init__(self, position):
        self.position = position


class InvalidMany(BowlError):
    """A count within the bounds of the function is wanted."""

    def __init__(self, value):
        self.value = value


class InvalidMember(BowlError):
    """A Table that is a member of the lot is wanted."""

    def __init__(self, value):
        self.value = value


class InvalidModulus(BowlError):
    """An integer from 2 on, within the bounds of the function, is wanted."""

    def __init__(self, value):
        self.value = value


class InvalidNumber(BowlError):
    """An integer is wanted."""

    def __init__(self, value):
        self.value = value


class InvalidRow(BowlError):
    """A row, of the size that is asked for, is wanted."""

    def __init__(self, value):
        self.value = value


class InvalidTable(BowlError):
    """A Table is wanted."""

    def __init__(self, value):
        self.value = value


class InvalidWord(BowlError):
    """A word of the makers is wanted."""

    def __init__(self, value):
        self.value = value


class InvalidBasis(BowlError):
    """A basis of the makers' kept forms is wanted."""

    def __init__(self, value):
        self.value = value


class InvalidClaim(BowlError):
    """A claim is wanted."""

    def __init__(self, value):
        self.value = value


class InvalidCommand(BowlError):
    """A command is wanted."""

    def __init__(self, value):
        self.value = value


class InvalidDegree(BowlError):
    """A count is wanted as the degree."""

    def __init__(self, value):
        self.value = value


class InvalidEquations(BowlError):
    """Equations are wanted."""

    def __init__(self, value):
        self.value = value


class InvalidKind(BowlError):
    """One of the thirteen kinds is wanted."""

    def __init__(self, value):
        self.value = value


class InvalidLines(BowlError):
    """A list of deeds is wanted; position is None, or that of the first wrong one."""

    def __init__(self, position):
        self.position = position


class InvalidMembers(BowlError):
    """A list of 1 to 4 members is wanted; position is None, or that of the first wrong one."""

    def __init__(self, position):
        self.position = position


class InvalidPaper(BowlError):
    """A paper of the claim is wanted."""

    def __init__(self, value):
        self.value = value


class InvalidPlace(BowlError):
    """A place in the bowl's rows is wanted."""

    def __init__(self, value):
        self.value = value


class InvalidPoly(BowlError):
    """A poly, of the unknowns that are asked for, is wanted."""

    def __init__(self, value):
        self.value = value


class InvalidPosition(BowlError):
    """The position of a maker is wanted."""

    def __init__(self, value):
        self.value = value


class InvalidRows(BowlError):
    """As many rows as places, of integers, are wanted."""

    def __init__(self, value):
        self.value = value


class InvalidSize(BowlError):
    """A size from 1 to 3 is wanted."""

    def __init__(self, value):
        self.value = value


class InvalidSort(BowlError):
    """The word of a sort is wanted."""

    def __init__(self, value):
        self.value = value


class InvalidText(BowlError):
    """A written form is wanted; line is the first wrong one, 0 for no string."""

    def __init__(self, line):
        self.line = line


class InvalidThing(BowlError):
    """A value of the sort is wanted."""

    def __init__(self, value):
        self.value = value


class MissingError(LookupError):
    """What is asked for is not there."""


class UnknownLabel(MissingError):
    """No claim is noted under this label."""

    def __init__(self, value):
        self.value = value


class UnknownName(MissingError):
    """Nothing is kept under this name."""

    def __init__(self, value):
        self.value = value


class StateError(RuntimeError):
    """Values are right by themselves, and do not serve for this."""


class UnlikeSizes(StateError):
    """Two things must have one size, and have not."""


class Endless(StateError):
    """A lot must be finite, and is not."""


class CommandFailed(StateError):
    """The command at this position failed."""

    def __init__(self, position):
        self.position = position


class LabelTaken(StateError):
    """A claim is noted under this label."""

    def __init__(self, label):
        self.label = label


class NameTaken(StateError):
    """Something is kept under this name."""

    def __init__(self, name):
        self.name = name


class NotKept(StateError):
    """A form must be kept by all makers, and is not."""


class NotPlane(StateError):
    """The tables of a lot must have two columns, and have not."""


class NotUndone(StateError):
    """A table must have the determinant 1 or -1, and has not."""


class NotWithin(StateError):
    """A lot must be within another one, and is not."""


class NothingToRedo(StateError):
    """No deed was taken back."""


class NothingToUndo(StateError):
    """No deed is left to take back."""


class TooWide(StateError):
    """A bowl must have at most two columns, and has three."""


class WrongThing(StateError):
    """Another kind of thing is kept under this name than is wanted."""

    def __init__(self, name):
        self.name = name


class LimitError(ArithmeticError):
    """An answer is beyond a limit."""


class TooMany(LimitError):
    """There are more of these than the limit."""

    def __init__(self, what, limit):
        self.what = what
        self.limit = limit
