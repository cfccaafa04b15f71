"""Reading written forms back, line by line."""

from keptbowls.degrees import is_poly_of
from keptbowls.errors import InvalidRows, InvalidText, NotUndone
from keptbowls.forms import Form
from keptbowls.lots import Lot
from keptbowls.rows import is_row
from keptbowls.squares import is_square_at
from keptbowls.tables import Table
from keptbowls.words import MOST_MAKERS, is_word


def read(text):
    """The tuple of the sort and the value that has this written form."""
    if not isinstance(text, str):
        raise InvalidText(0)
    # Behind the last line feed stands nothing: the number of that part is the one of a line that lacks.
    lines = text.split("\n")
    told = _first_told(lines[0])
    if told is None:
        raise InvalidText(1)
    sort, things = told
    for at in range(1, len(lines) - 1):
        thing = _further_told(sort, things, lines[at])
        if thing is None:
            raise InvalidText(at + 1)
        things.append(thing)
    if lines[-1] != "" or not _is_whole(sort, things):
        raise InvalidText(len(lines))
    return (sort, _put_together(sort, things))


def integer_of(text):
    """The integer that is written so, None if there is none."""
    figures = text[1:] if text.startswith("-") else text
    if not figures.isascii() or not figures.isdigit():
        return None
    # Needless noughts are told by the first figure: of the contrary of nought, too.
    return None if figures.startswith("0") and text != "0" else int(text)


def integers_of(text, sign):
    """The tuple of the integers that are written so, with the sign between; None if there is none."""
    numbers = tuple([integer_of(part) for part in text.split(sign)])
    return None if None in numbers else numbers


def row_of(text):
    """The row that is written so, None if there is none."""
    numbers = integers_of(text, ",")
    return numbers if is_row(numbers) else None


def rows_of(text):
    """The tuple of rows that is written so, each of as many numbers as there are rows; None if there is none."""
    rows = tuple([row_of(part) for part in text.split(";")])
    return rows if all([row is not None and len(row) == len(rows) for row in rows]) else None


def letters_of(text):
    """The list of integers that is written so with full stops between, None if there is none."""
    if text == "-":
        return []
    numbers = integers_of(text, ".")
    return None if numbers is None else list(numbers)


def _table_of(text):
    try:
        return Table(rows_of(text))
    except (InvalidRows, NotUndone):
        return None


def _form_of(text):
    try:
        return Form(rows_of(text))
    except InvalidRows:
        return None


def _word_of(text):
    letters = letters_of(text)
    return letters if is_word(letters, MOST_MAKERS) else None


def _first_told(line):
    """The sort of the first line, and the list of what the line tells; None if no written form begins so."""
    words = line.split(" ")
    if words in (["lot"], ["poly"], ["squares"]):
        return (words[0], [])
    value = _told_at_once(words[0], words[1]) if len(words) == 2 else None
    return None if value is None else (words[0], [value])


def _told_at_once(sort, text):
    """The value of a sort whose written form is one line, None if none is written so."""
    if sort == "row":
        return row_of(text)
    if sort == "table":
        return _table_of(text)
    if sort == "form":
        return _form_of(text)
    return _word_of(text) if sort == "word" else None


def _further_told(sort, things, line):
    """What the line tells behind these things; None if no written form has it there."""
    words = line.split(" ")
    if sort == "lot":
        return _next_maker(things, words)
    if sort == "poly":
        return _next_product(things, words)
    return _next_square(things, words) if sort == "squares" else None


def _next_maker(makers, words):
    if len(words) != 2 or words[0] != "maker" or len(makers) == MOST_MAKERS:
        return None
    table = _table_of(words[1])
    if table is None or (len(makers) > 0 and table.size != makers[0].size):
        return None
    return table


def _next_product(pairs, words):
    if len(words) != 3 or words[0] != "product":
        return None
    spot, factor = row_of(words[1]), integer_of(words[2])
    if spot is None or not is_poly_of(len(spot), {spot: factor}):
        return None
    if len(pairs) > 0 and (len(pairs[-1][0]) != len(spot) or pairs[-1][0] >= spot):
        return None
    return (spot, factor)


def _next_square(pairs, words):
    if len(words) != 3 or words[0] != "square":
        return None
    bottom, row = integer_of(words[1]), row_of(words[2])
    if row is None or len(pairs) == len(row) or (len(pairs) > 0 and len(pairs[0][1]) != len(row)):
        return None
    return (bottom, row) if is_square_at(len(row), len(pairs), (bottom, row)) else None


def _is_whole(sort, things):
    """Whether these things are enough for a value of the sort."""
    if sort == "squares":
        return len(things) > 0 and len(things) == len(things[0][1])
    return sort == "poly" or len(things) > 0


def _put_together(sort, things):
    if sort == "lot":
        return Lot(things)
    if sort == "poly":
        return {spot: factor for spot, factor in things}
    return things if sort == "squares" else things[0]
