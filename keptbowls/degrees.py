"""Polys: dicts from tuples of exponents to factors; which of them a finite lot keeps, and how many."""

from keptbowls.basics import check_many, is_count, is_integer
from keptbowls.equations import kernel
from keptbowls.errors import InvalidDegree, InvalidPoly, TooMany
from keptbowls.grids import polynomial_of
from keptbowls.lots import check_finite, check_lot
from keptbowls.tables import check_table

MOST_SUM = 6
MOST_BY_MEANS = 8
# To which degree tables of one, of two, of three columns are solved.
MOST_SOLVED = (6, 5, 3)


def poly_led(table, poly):
    """The poly led by the table."""
    check_table(table)
    _check_poly(table.size, poly)
    return _led(table.rows, poly)


def averaged(lot, poly):
    """The sum of what the poly is led to by all members."""
    check_lot(lot)
    _check_poly(lot.size, poly)
    told = {}
    for member in lot.members():
        led = _led(member.rows, poly)
        for spot, factor in led.items():
            told[spot] = told.get(spot, 0) + factor
    return _without_noughts(told)


def is_kept_poly(lot, value):
    """Whether the value is a poly that the lot keeps."""
    check_lot(lot)
    check_finite(lot)
    if not is_poly_of(lot.size, value):
        return False
    return all([_led(maker.rows, value) == value for maker in lot.makers()])


def degree_counts(lot, many):
    """The list of how many independent kept polys of the degrees 0 to many there are, by means."""
    check_lot(lot)
    check_many(many, MOST_BY_MEANS)
    rising = [_rising(member.rows, many) for member in lot.members()]
    return [sum([numbers[degree] for numbers in rising]) // lot.total for degree in range(many + 1)]


def solved_count(lot, degree):
    """How many independent kept polys of the degree there are, by solving for their factors."""
    check_lot(lot)
    if not is_count(degree):
        raise InvalidDegree(degree)
    check_finite(lot)
    most = MOST_SOLVED[lot.size - 1]
    if degree > most:
        raise TooMany("degree", most)
    spots = _spots(lot.size, degree)
    lines = []
    for maker in lot.makers():
        changes = [_changed(maker.rows, spot) for spot in spots]
        lines.extend([[change.get(other, 0) for change in changes] for other in spots])
    return len(kernel(lines))


def is_poly_of(size, value):
    """Whether the value is a poly of so many unknowns."""
    return isinstance(value, dict) and all([_is_product(size, spot, factor) for spot, factor in value.items()])


def _is_product(size, spot, factor):
    if not isinstance(spot, tuple) or len(spot) != size or not all([is_count(number) for number in spot]):
        return False
    return sum(spot) <= MOST_SUM and is_integer(factor) and factor != 0


def _check_poly(size, poly):
    if not is_poly_of(size, poly):
        raise InvalidPoly(poly)


def _without_noughts(told):
    """The poly of these factors, sorted."""
    return {spot: told[spot] for spot in sorted(list(told)) if told[spot] != 0}


def _led(rows, poly):
    """The poly led by the table with these rows."""
    known, told = {(0,) * len(rows): {(0,) * len(rows): 1}}, {}
    for spot, factor in poly.items():
        led = _led_product(rows, spot, known)
        for other, number in led.items():
            told[other] = told.get(other, 0) + factor * number
    return _without_noughts(told)


def _led_product(rows, spot, known):
    """What the rows make of a product of unknowns; what is reckoned on the way there is kept in known."""
    if spot not in known:
        at = [place for place, number in enumerate(spot) if number > 0][0]
        known[spot] = _times_row(_led_product(rows, _moved(spot, at, -1), known), rows[at])
    return known[spot]


def _times_row(poly, row):
    """The poly times the sum of the row's numbers times the unknowns."""
    told = {}
    for spot, factor in poly.items():
        for at, number in enumerate(row):
            further = _moved(spot, at, 1)
            told[further] = told.get(further, 0) + factor * number
    return told


def _moved(spot, at, by):
    """The tuple with so much more at the place."""
    return spot[:at] + (spot[at] + by,) + spot[at + 1:]


def _rising(rows, many):
    """The numbers at t to the degrees 0 to many of 1 divided by the determinant of 1 - t times the table."""
    # The polynomial from behind is that determinant: times the series, it is 1.
    numbers = polynomial_of(rows)[::-1]
    told = [1]
    for degree in range(1, many + 1):
        told.append(-sum([numbers[at] * told[degree - at] for at in range(1, len(numbers)) if at <= degree]))
    return told


def _spots(size, degree):
    """The tuples of so many counts of the degree, sorted."""
    if size == 1:
        return [(degree,)]
    return [(first,) + rest for first in range(degree + 1) for rest in _spots(size - 1, degree - first)]


def _changed(rows, spot):
    """What the rows change of the product of unknowns: the led one less itself."""
    told = _led(rows, {spot: 1})
    told[spot] = told.get(spot, 0) - 1
    return told
