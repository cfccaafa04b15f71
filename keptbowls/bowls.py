"""Bowls, the pits of other forms, and how far rows of a bowl go."""

from math import isqrt

from keptbowls.basics import check_many, is_count
from keptbowls.errors import InvalidBowl, InvalidPlace
from keptbowls.forms import Form, check_form, corners
from keptbowls.grids import cofactor, leading
from keptbowls.rows import is_row_of

MOST_WORTH = 1000000


def is_bowl(form):
    """Whether the form is a bowl."""
    return min(corners(form)) > 0


def check_bowl(bowl):
    """InvalidBowl unless it is a Form that is a bowl."""
    if not isinstance(bowl, Form) or not is_bowl(bowl):
        raise InvalidBowl(bowl)


def pit(form):
    """A pit of the form, a tuple; None of a bowl."""
    low = [at for at, corner in enumerate(corners(form)) if corner <= 0]
    if len(low) == 0:
        return None
    at = low[0]
    upper = leading(form.rows, at + 1)
    return tuple([cofactor(upper, at, place) for place in range(at + 1)] + [0] * (form.size - at - 1))


def is_pit(form, value):
    """Whether the value is a pit of the form."""
    check_form(form)
    if not is_row_of(form.size, value):
        return False
    return any([number != 0 for number in value]) and form.worth(value) <= 0


def bowl_bound(bowl, place, many):
    """The greatest count that a row of worth at most many may have at the place, by the cofactor."""
    check_bowl(bowl)
    if not is_count(place) or place >= bowl.size:
        raise InvalidPlace(place)
    check_many(many, MOST_WORTH)
    return isqrt(many * cofactor(bowl.rows, place, place) // bowl.determinant)
