"""What stays at all members of a finite lot, counted by means over them."""

from keptbowls.grids import led_row
from keptbowls.lots import check_lot
from keptbowls.rounds import check_rests, led_rests, rest_rows
from keptbowls.rows import check_row


def sum_table(lot):
    """The sum of all members, number by number, a tuple of tuples."""
    check_lot(lot)
    grids = [member.rows for member in lot.members()]
    places = range(lot.size)
    return tuple([tuple([sum([rows[at][place] for rows in grids]) for place in places]) for at in places])


def kept_part(lot, row):
    """The row to which the sum of all members leads this one."""
    check_lot(lot)
    check_row(lot.size, row)
    return led_row(sum_table(lot), row)


def mean_trace(lot):
    """The mean of the members' traces."""
    check_lot(lot)
    return sum([member.trace for member in lot.members()]) // lot.total


def mean_forms(lot):
    """The mean, over the members, of half the sum of the squared trace and the square's trace."""
    check_lot(lot)
    # The trace of the square is the squared trace less an even number: so halves leave no rest.
    halves = [(member.trace * member.trace + (member * member).trace) // 2 for member in lot.members()]
    return sum(halves) // lot.total


def mean_rounds(lot, modulus):
    """The mean, over the members, of how many rows of rests they lead to themselves."""
    check_rests(lot, modulus)
    rows = rest_rows(lot.size, modulus)
    told = [len([row for row in rows if led_rests(member.rows, row, modulus) == row]) for member in lot.members()]
    return sum(told) // lot.total
