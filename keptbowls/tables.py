"""Tables: grids of integers that can be undone."""

from keptbowls.basics import is_integer
from keptbowls.errors import InvalidModulus, InvalidNumber, InvalidRows, InvalidTable, NotUndone, TooMany, UnlikeSizes
from keptbowls.grids import check_size, cofactor, copied, determinant_of, is_grid, led_row, multiplied
from keptbowls.grids import polynomial_of, rests_of, trace_of, unit_rows
from keptbowls.rows import check_row


class Table:
    """A table of one, two or three columns with the determinant 1 or -1."""

    def __init__(self, rows):
        if not is_grid(rows):
            raise InvalidRows(rows)
        kept = copied(rows)
        if determinant_of(kept) not in (1, -1):
            raise NotUndone()
        self._rows = kept

    @property
    def rows(self):
        """The rows, a tuple of tuples."""
        return self._rows

    @property
    def size(self):
        """How many columns there are."""
        return len(self._rows)

    @property
    def determinant(self):
        """The determinant, 1 or -1."""
        return determinant_of(self._rows)

    @property
    def trace(self):
        """The sum of the numbers at (i, i)."""
        return trace_of(self._rows)

    def __eq__(self, other):
        return isinstance(other, Table) and self._rows == other._rows

    def __repr__(self):
        return f"Table({self._rows!r})"

    def __mul__(self, other):
        check_table(other)
        check_alike(self, other)
        return Table(multiplied(self._rows, other.rows))

    def lead(self, row):
        """The row to which the table leads this one."""
        check_row(self.size, row)
        return led_row(self._rows, row)

    def undone(self):
        """The Table that leads back."""
        whole = self.determinant
        places = range(self.size)
        # The determinant is 1 or -1, so dividing by it is the same as multiplying by it.
        return Table([[whole * cofactor(self._rows, at, place) for at in places] for place in places])

    def power(self, number):
        """The power of the table, of the table undone for a number below 0."""
        if not is_integer(number):
            raise InvalidNumber(number)
        base = self if number >= 0 else self.undone()
        told = idle(self.size)
        # Digit by digit from the greatest one on: no number grows beyond what the answer needs.
        for place in reversed(range(abs(number).bit_length())):
            told = told * told
            if (abs(number) >> place) & 1 == 1:
                told = told * base
        return told

    def rests(self, modulus):
        """The rests of the table, a tuple of tuples."""
        check_modulus(modulus)
        return rests_of(self._rows, modulus)


def check_table(table):
    """InvalidTable unless it is a Table."""
    if not isinstance(table, Table):
        raise InvalidTable(table)


def check_alike(one, other):
    """UnlikeSizes unless both, Tables or Forms, have one size."""
    if one.size != other.size:
        raise UnlikeSizes()


def check_modulus(modulus):
    """InvalidModulus unless it is an integer from 2 to 1,000."""
    if not is_integer(modulus) or not 2 <= modulus <= 1000:
        raise InvalidModulus(modulus)


def in_sequence(tables):
    """The Tables of the list, sorted by their rows."""
    return sorted(tables, key=lambda table: table.rows)


def idle(size):
    """The idle Table of this size."""
    check_size(size)
    return Table(unit_rows(size))


def is_idle(table):
    """Whether the table is the idle one."""
    check_table(table)
    return table == idle(table.size)


def turned(table, other):
    """The Table into which the other one turns the table."""
    check_table(table)
    check_table(other)
    check_alike(table, other)
    return other * table * other.undone()


def polynomial(table):
    """The integers of the table's polynomial, from the one without t on."""
    check_table(table)
    return polynomial_of(table.rows)


def beside(table, other):
    """The Table of both beside one another."""
    check_table(table)
    check_table(other)
    if table.size + other.size > 3:
        raise TooMany("columns", 3)
    upper = [row + (0,) * other.size for row in table.rows]
    lower = [(0,) * table.size + row for row in other.rows]
    return Table(upper + lower)


def rests_alike(table, other, modulus):
    """Whether both tables have like rests."""
    check_table(table)
    check_table(other)
    rests = table.rests(modulus)
    check_alike(table, other)
    return rests == other.rests(modulus)
