"""Rounds: the rows to which the members of a finite lot lead a row."""

from keptbowls.basics import check_many, is_integer
from keptbowls.bowls import MOST_WORTH
from keptbowls.errors import InvalidModulus
from keptbowls.grids import led_row
from keptbowls.lots import check_finite, check_lot
from keptbowls.rows import check_row
from keptbowls.shorts import short_rows
from keptbowls.verdicts import kept_bowl

MOST_RESTS = 9


def round_of(lot, row):
    """The sorted list of the rows of the row's round."""
    _check_lot_and_row(lot, row)
    return sorted(set([member.lead(row) for member in lot.members()]))


def stayers(lot, row):
    """The sorted list of the members that lead the row to itself."""
    _check_lot_and_row(lot, row)
    return [member for member in lot.members() if member.lead(row) == tuple(row)]


def rounds_within(lot, many):
    """The sorted list of the rounds of all rows of worth at most many in the lot's kept bowl."""
    check_lot(lot)
    check_many(many, MOST_WORTH)
    told, seen = [], {}
    for row in short_rows(kept_bowl(lot), many):
        # Rows come sorted, so each round comes up by its first row: the list is sorted, too.
        if row not in seen:
            told.append(round_of(lot, row))
            for one in told[-1]:
                seen[one] = True
    return told


def rest_rounds(lot, modulus):
    """How many rounds the rows by rests have."""
    check_rests(lot, modulus)
    grids = [maker.rows for maker in lot.makers()]
    seen, many = {}, 0
    for row in rest_rows(lot.size, modulus):
        if row not in seen:
            many += 1
            for one in _round_by_rests(grids, row, modulus):
                seen[one] = True
    return many


def check_rests(lot, modulus):
    """What is asked of a lot and a modulus by which rows are told by rests."""
    check_lot(lot)
    if not is_integer(modulus) or not 2 <= modulus <= MOST_RESTS:
        raise InvalidModulus(modulus)
    check_finite(lot)


def rest_rows(size, modulus):
    """All rows of rests."""
    rows = [()]
    for _ in range(size):
        rows = [row + (rest,) for row in rows for rest in range(modulus)]
    return rows


def led_rests(rows, row, modulus):
    """The row of rests to which the rows lead this one."""
    return tuple([number % modulus for number in led_row(rows, row)])


def _round_by_rests(grids, row, modulus):
    """The rows of rests that come of the row by the grids, again and again."""
    line, at = [row], 0
    found = {row: True}
    while at < len(line):
        for rows in grids:
            further = led_rests(rows, line[at], modulus)
            if further not in found:
                found[further] = True
                line.append(further)
        at += 1
    return line


def _check_lot_and_row(lot, row):
    check_lot(lot)
    check_row(lot.size, row)
