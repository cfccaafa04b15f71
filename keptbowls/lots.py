"""Lots: all products of some makers, if these are finitely many."""

from keptbowls.errors import Endless, InvalidLot, InvalidMember
from keptbowls.tables import Table, idle, in_sequence
from keptbowls.words import check_makers, letter_steps, product

# How many members a finite lot of one, of two, of three columns has at most.
MOST_MEMBERS = (2, 12, 48)


class Lot:
    """The lot that 1 to 4 Tables of one size make."""

    def __init__(self, makers):
        check_makers(makers)
        self._makers = list(makers)
        self._words = walked(makers)

    @property
    def size(self):
        """How many columns the tables have."""
        return self._makers[0].size

    @property
    def is_finite(self):
        """Whether there are finitely many members."""
        return len(self._words) <= MOST_MEMBERS[self.size - 1]

    @property
    def total(self):
        """How many members there are, None if the lot is endless."""
        return len(self._words) if self.is_finite else None

    def __eq__(self, other):
        return isinstance(other, Lot) and self._makers == other._makers

    def __repr__(self):
        return f"Lot({self._makers!r})"

    def makers(self):
        """The list of the makers."""
        return list(self._makers)

    def members(self):
        """The sorted list of all members."""
        check_finite(self)
        return in_sequence([Table(rows) for rows in self._words])

    def has(self, value):
        """Whether the value is a member."""
        check_finite(self)
        return isinstance(value, Table) and value.rows in self._words

    def word_of(self, member):
        """A shortest word whose product the member is, a list."""
        check_member(self, member)
        return list(self._words[member.rows])

    def product(self, word):
        """The Table that is the word's product."""
        return product(self._makers, word)


def walked(makers):
    """Shortest words by the rows of their products: of all members, or of one more than a finite lot can have."""
    start = idle(makers[0].size)
    most = MOST_MEMBERS[start.size - 1]
    steps = letter_steps(makers)
    words, line, at = {start.rows: []}, [start], 0
    while at < len(line) and len(words) <= most:
        table = line[at]
        at += 1
        for letter, step in steps:
            further = table * step
            if further.rows not in words and len(words) <= most:
                words[further.rows] = words[table.rows] + [letter]
                line.append(further)
    return words


def check_lot(lot):
    """InvalidLot unless it is a Lot."""
    if not isinstance(lot, Lot):
        raise InvalidLot(lot)


def check_finite(lot):
    """Endless unless the lot is finite."""
    if not lot.is_finite:
        raise Endless()


def check_member(lot, member):
    """Endless unless the lot is finite, then InvalidMember unless it has the member."""
    if not lot.has(member):
        raise InvalidMember(member)
