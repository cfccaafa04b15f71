"""Forms: symmetric grids, and the worths that they give to rows."""

from math import gcd

from keptbowls.basics import is_integer
from keptbowls.errors import InvalidForm, InvalidNumber, InvalidRows
from keptbowls.grids import across, check_size, copied, determinant_of, is_grid, leading, led_row, multiplied
from keptbowls.grids import polynomial_of, scalar, unit_rows
from keptbowls.rows import check_row
from keptbowls.tables import check_alike, check_table


class Form:
    """A form of one, two or three columns."""

    def __init__(self, rows):
        if not is_grid(rows) or copied(rows) != across(rows):
            raise InvalidRows(rows)
        self._rows = copied(rows)

    @property
    def rows(self):
        """The rows, a tuple of tuples."""
        return self._rows

    @property
    def size(self):
        """How many columns there are."""
        return len(self._rows)

    @property
    def determinant(self):
        """The determinant, the last corner."""
        return determinant_of(self._rows)

    def __eq__(self, other):
        return isinstance(other, Form) and self._rows == other._rows

    def __repr__(self):
        return f"Form({self._rows!r})"

    def __add__(self, other):
        check_form(other)
        check_alike(self, other)
        return Form([[one + more for one, more in zip(row, line)] for row, line in zip(self._rows, other.rows)])

    def worth(self, row):
        """The worth of the row."""
        return self.between(row, row)

    def between(self, row, other):
        """The number that the form has between both rows."""
        check_row(self.size, row)
        check_row(self.size, other)
        return scalar(row, led_row(self._rows, other))

    def times(self, number):
        """The Form multiplied by the number."""
        if not is_integer(number):
            raise InvalidNumber(number)
        return Form([[number * one for one in row] for row in self._rows])

    def led(self, table):
        """The Form led by the table."""
        check_table(table)
        check_alike(self, table)
        return Form(multiplied(multiplied(across(table.rows), self._rows), table.rows))

    def divisor(self):
        """The greatest integer that divides all numbers, 0 if they are 0."""
        told = 0
        for row in self._rows:
            for number in row:
                told = gcd(told, number)
        return told

    def single(self):
        """The Form divided by its divisor, itself if that is 0."""
        by = self.divisor()
        if by == 0:
            return self
        return Form([[number // by for number in row] for row in self._rows])


def check_form(form):
    """InvalidForm unless it is a Form."""
    if not isinstance(form, Form):
        raise InvalidForm(form)


def sum_form(size):
    """The Form with 1 at each (i, i), 0 elsewhere."""
    check_size(size)
    return Form(unit_rows(size))


def corners(form):
    """The list of the form's leading determinants."""
    check_form(form)
    return [determinant_of(leading(form.rows, many)) for many in range(1, form.size + 1)]


def signs(form):
    """How many signs of the form are above 0, below 0, and 0."""
    check_form(form)
    numbers = polynomial_of(form.rows)
    kept = [number for number in numbers if number != 0]
    # The polynomial of a symmetric grid has no other roots than real ones, as many of them 0 as it has
    # noughts in front; then Descartes' count of changing signs is just how many are above 0.
    above = len([at for at in range(1, len(kept)) if (kept[at - 1] > 0) != (kept[at] > 0)])
    nought = min([at for at, number in enumerate(numbers) if number != 0])
    return (above, form.size - above - nought, nought)
