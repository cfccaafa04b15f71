"""Leads: the Tables that lead one bowl to another one, and least forms."""

from keptbowls.basics import is_count
from keptbowls.bowls import check_bowl
from keptbowls.counts import MOST_COUNTED, worth_counts
from keptbowls.errors import TooWide
from keptbowls.keepers import leading_tables
from keptbowls.shorts import shortest_table
from keptbowls.tables import Table, check_alike


def lead(bowl, goal):
    """A lead from the bowl to the goal, a Table; None if there is none."""
    told = leads(bowl, goal)
    return told[0] if len(told) > 0 else None


def is_lead(bowl, goal, value):
    """Whether the value is a lead from the bowl to the goal."""
    _check_both(bowl, goal)
    return isinstance(value, Table) and value.size == bowl.size and bowl.led(value) == goal


def leads(bowl, goal):
    """The sorted list of all leads from the bowl to the goal."""
    _check_both(bowl, goal)
    return leading_tables(bowl, goal)


def is_unlike(bowl, goal, value):
    """Whether the value is a count of at most 400 of which, as a worth, both bowls have unlike many rows."""
    _check_both(bowl, goal)
    if not is_count(value) or value > MOST_COUNTED:
        return False
    return worth_counts(bowl, value)[value] != worth_counts(goal, value)[value]


def least_form(bowl):
    """The least form of a bowl of one or two columns."""
    table = least_lead(bowl)
    return bowl.led(table)


def least_lead(bowl):
    """A lead from a bowl of one or two columns to its least form."""
    check_bowl(bowl)
    if bowl.size > 2:
        raise TooWide()
    table = shortest_table(bowl)
    # The columns are as short as can be: only the sign between both of them may be wrong.
    if bowl.led(table).rows[0][-1] >= 0:
        return table
    return table * Table([[1, 0], [0, -1]])


def _check_both(bowl, goal):
    check_bowl(bowl)
    check_bowl(goal)
    check_alike(bowl, goal)
