"""Written forms: values of seven sorts as strings of lines."""

from keptbowls.basics import is_list
from keptbowls.degrees import is_poly_of
from keptbowls.errors import InvalidSort, InvalidThing
from keptbowls.forms import Form
from keptbowls.lots import Lot
from keptbowls.rows import is_row
from keptbowls.squares import is_square_at
from keptbowls.tables import Table
from keptbowls.words import MOST_MAKERS, is_word

SORTS = ("row", "table", "form", "word", "lot", "poly", "squares")


def sorts():
    """The list of the words of the sorts."""
    return list(SORTS)


def is_of(sort, value):
    """Whether the value is one of the sort."""
    if not isinstance(sort, str) or sort not in SORTS:
        raise InvalidSort(sort)
    if sort == "row":
        return is_row(value)
    if sort == "table":
        return isinstance(value, Table)
    if sort == "form":
        return isinstance(value, Form)
    if sort == "word":
        return is_word(value, MOST_MAKERS)
    if sort == "lot":
        return isinstance(value, Lot)
    if sort == "poly":
        return any([is_poly_of(size, value) for size in (1, 2, 3)])
    return _is_of_squares(value)


def written(sort, value):
    """The written form of the value."""
    if not is_of(sort, value):
        raise InvalidThing(value)
    return "".join([f"{line}\n" for line in _lines(sort, value)])


def told_numbers(numbers):
    """The integers with commas between."""
    return ",".join([str(number) for number in numbers])


def told_rows(rows):
    """The rows with semicolons between."""
    return ";".join([told_numbers(row) for row in rows])


def _is_of_squares(value):
    if not is_list(value) or not 1 <= len(value) <= 3:
        return False
    return all([is_square_at(len(value), place, pair) for place, pair in enumerate(value)])


def _lines(sort, value):
    """The lines of the written form, without their line feeds."""
    if sort == "row":
        return [f"row {told_numbers(value)}"]
    if sort == "word":
        return [f"word {_told_letters(value)}"]
    if sort == "lot":
        return ["lot"] + [f"maker {told_rows(maker.rows)}" for maker in value.makers()]
    if sort == "poly":
        return ["poly"] + [f"product {told_numbers(spot)} {value[spot]}" for spot in sorted(list(value))]
    if sort == "squares":
        return ["squares"] + [f"square {bottom} {told_numbers(row)}" for bottom, row in value]
    return [f"{sort} {told_rows(value.rows)}"]


def _told_letters(word):
    return ".".join([str(letter) for letter in word]) if len(word) > 0 else "-"
