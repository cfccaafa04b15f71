"""The keepers of a bowl: all Tables that keep it."""

from keptbowls.bowls import check_bowl
from keptbowls.grids import across
from keptbowls.kept import keeps
from keptbowls.lots import Lot
from keptbowls.orders import order
from keptbowls.shorts import MOST_ROWS, rows_to, shortest_table
from keptbowls.tables import Table, in_sequence, turned


def is_keeper(bowl, value):
    """Whether the value is a keeper of the bowl."""
    check_bowl(bowl)
    return isinstance(value, Table) and value.size == bowl.size and keeps(value, bowl)


def keepers(bowl):
    """The sorted list of all keepers of the bowl."""
    check_bowl(bowl)
    table = shortest_table(bowl)
    # The numbers at (i, i) of the led bowl are its steps: no more rows come in question than need be.
    led = bowl.led(table)
    return in_sequence([turned(Table(across(columns)), table) for columns in _columns_alike(led)])


def keepers_lot(bowl):
    """A Lot of 1 to 4 makers whose members are all keepers."""
    # The first one has the greatest order, 6 of 48 keepers, and each further one at least doubles the
    # lot: so four are enough.
    told = sorted(keepers(bowl), key=order, reverse=True)
    lot = Lot(told[:1])
    for keeper in told:
        if not lot.has(keeper):
            lot = Lot(lot.makers() + [keeper])
    return lot


def _columns_alike(bowl):
    """Lists of rows of the bowl, each two of which have as much between them as the unit rows at their places."""
    last = bowl.rows[-1][-1]
    rows = rows_to(bowl, last, MOST_ROWS)
    told = [[]]
    for line in bowl.rows:
        # One more at a time, each with what the form tells of it with those ahead and with itself.
        told = [columns + [row] for columns in told for row in rows if _fits(bowl, line, columns + [row])]
    return told


def _fits(bowl, line, columns):
    """Whether the last column has the numbers of the line between each of the columns and itself."""
    return all([bowl.between(column, columns[-1]) == number for column, number in zip(columns, line)])
