"""The orders of tables: after how many times they come home."""

from keptbowls.basics import is_integer
from keptbowls.errors import InvalidNumber
from keptbowls.grids import multiplied, rests_of, unit_rows
from keptbowls.tables import check_table, is_idle


def order(table):
    """The least power of the table, from 1 on, that is idle; None if there is none."""
    often = rest_order(table)
    return often if is_idle(table.power(often)) else None


def home(table, number):
    """Whether the power of the table by the number is idle."""
    often = order(table)
    if not is_integer(number):
        raise InvalidNumber(number)
    if often is None:
        return number == 0
    return number % often == 0


def rest_order(table):
    """The least power of the table, from 1 on, that has the idle table's rests by 3."""
    check_table(table)
    rests = table.rests(3)
    reached, often = rests, 1
    while reached != unit_rows(table.size):
        reached = rests_of(multiplied(reached, rests), 3)
        often += 1
    return often
