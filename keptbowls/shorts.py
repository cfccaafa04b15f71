"""The short rows of a bowl, of which there are finitely many."""

from math import isqrt

from keptbowls.basics import check_many, is_list
from keptbowls.bowls import MOST_WORTH, check_bowl
from keptbowls.errors import TooMany
from keptbowls.grids import across, cofactor, determinant_of, scalar, unit_rows
from keptbowls.rows import is_row_of
from keptbowls.squares import squares
from keptbowls.tables import Table

MOST_ROWS = 400


def short_rows(bowl, many):
    """The sorted list of all rows of a worth of at most many."""
    check_bowl(bowl)
    check_many(many, MOST_WORTH)
    return sorted(rows_to(bowl, many, MOST_ROWS))


def rows_of_worth(bowl, many):
    """The sorted list of all rows of just this worth."""
    return [row for row in short_rows(bowl, many) if bowl.worth(row) == many]


def is_short_list(bowl, many, value):
    """Whether the value is a list of just all rows of a worth of at most many, each once."""
    told = short_rows(bowl, many)
    if not is_list(value) or not all([is_row_of(bowl.size, row) for row in value]):
        return False
    return sorted([tuple(row) for row in value]) == told


def rows_to(bowl, many, most):
    """All rows of a worth of at most many, however great; TooMany if there are more than most."""
    table = shortest_table(bowl)
    led = bowl.led(table)
    # Multiples of the shortest row alone may be too many: without them no number has a wide range.
    if 2 * isqrt(many // led.rows[0][0]) + 1 > most:
        raise TooMany("rows", most)
    found = _rows_by_squares(squares(led), many, most)
    if len(found) > most:
        raise TooMany("rows", most)
    return [table.lead(row) for row in found]


def shortest_table(bowl):
    """A Table whose columns are step rows of the bowl, each as short as can be beside those ahead of it."""
    return Table(across(_shortest(bowl, list(unit_rows(bowl.size)))))


def _shortest(bowl, rows):
    """Rows that have the same whole sums, as short as can be, the shortest one first."""
    if len(rows) == 1:
        return rows
    told = rows
    while True:
        ahead = _shortest(bowl, told[:-1])
        last = _lessened(bowl, ahead, told[-1])
        if bowl.worth(last) >= bowl.worth(ahead[-1]):
            return ahead + [last]
        told = sorted(ahead + [last], key=bowl.worth)


def _lessened(bowl, ahead, row):
    """The row less such multiples of those ahead, which are as short as can be, that its worth is least."""
    grid = [[bowl.between(one, other) for other in ahead] for one in ahead]
    shares = [bowl.between(one, row) for one in ahead]
    whole = determinant_of(grid)
    near = [row]
    for at, shorter in enumerate(ahead):
        low = scalar([cofactor(grid, at, place) for place in range(len(ahead))], shares) // whole
        # The least one is at a corner of the cell in which the fractions lie, as the rows ahead are shortest.
        near = [_less(line, factor, shorter) for line in near for factor in (low, low + 1)]
    return min(near, key=bowl.worth)


def _less(row, factor, other):
    return tuple([number - factor * more for number, more in zip(row, other)])


def _rows_by_squares(told, many, most):
    """The rows of a worth of at most many, by the squares of their bowl; not all of them, if more than most."""
    whole = 1
    for bottom, _ in told:
        whole = whole * bottom
    found = []
    # Ends of rows, and what is left of the worth for the numbers ahead of them, times the whole.
    open_ends = [((), many * whole)]
    while len(open_ends) > 0 and len(found) <= most:
        tail, left = open_ends.pop()
        if len(tail) == len(told):
            found.append(tail)
        else:
            open_ends.extend(_longer_ends(told, whole, tail, left))
    return found


def _longer_ends(told, whole, tail, left):
    """The ends with one number more ahead."""
    place = len(told) - len(tail) - 1
    bottom, row = told[place]
    factor, moved = row[place], scalar(row[place + 1:], tail)
    far = isqrt(left * bottom // whole)
    ends = []
    for number in range(-((far + moved) // factor), (far - moved) // factor + 1):
        reached = factor * number + moved
        ends.append(((number,) + tail, left - reached * reached * (whole // bottom)))
    return ends
