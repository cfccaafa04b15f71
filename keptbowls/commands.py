"""Commands of a desk, judged by their words alone."""

from keptbowls.claims import KINDS
from keptbowls.readers import integer_of, letters_of, row_of, rows_of
from keptbowls.words import MOST_LETTERS, MOST_MAKERS

MOST_SIGNS = 8
MOST_FIGURES = 30
MOST_POWER = 99

DEEDS = ("table", "form", "lot", "copy", "times", "undone", "power", "plus", "bowl", "turn", "lead", "more", "less",
         "drop", "claim", "forget")
# What stands behind each word, a name by what must be kept under it: "new" nothing, "moved" a table or a lot,
# "any" anything. What stands behind "claim" hangs on its second word.
SHAPES = {
    "table": "new rows", "form": "new rows", "lot": "new tables", "copy": "new any", "times": "new table table",
    "undone": "new table", "power": "new table power", "plus": "new form form", "bowl": "new lot",
    "turn": "moved table", "lead": "form table", "more": "lot table", "less": "lot count", "drop": "any",
    "forget": "label", "undo": "", "redo": "", "state": "label", "states": "", "claimed": "label", "names": "",
    "shown": "any", "order": "table", "trace": "table", "rests": "table count", "point": "table row",
    "worth": "form row", "corners": "form", "short": "form count", "steps": "form", "count": "lot", "kept": "lot",
    "product": "lot word", "orders": "lot", "middle": "lot", "classes": "lot", "kind": "lot", "rounds": "lot count",
    "degrees": "lot count", "holds": "lot table", "same": "lot lot",
}


def is_name(value):
    """Whether the value is a name."""
    if not isinstance(value, str) or not 1 <= len(value) <= MOST_SIGNS:
        return False
    return value.isascii() and value.isalnum() and value == value.lower() and value[0].isalpha()


def is_command(value):
    """Whether the value is a command by its words alone."""
    return parts_of(value) is not None


def is_deed(value):
    """Whether the value is a command that is a deed."""
    return is_command(value) and value.split(" ")[0] in DEEDS


def parts_of(value):
    """The list of pairs of what stands behind the word of the command: its shape, and what is told there.

    None for a value that is no command.
    """
    if not isinstance(value, str):
        return None
    texts = value.split(" ")
    shapes = _shapes(texts)
    if shapes is None or len(shapes) != len(texts) - 1:
        return None
    parts = [(shape, _told(shape, text)) for shape, text in zip(shapes, texts[1:])]
    return None if any([told is None for _, told in parts]) else parts


def _shapes(texts):
    """The shapes of what stands behind the first word; None if no command begins so."""
    if texts[0] == "claim" and len(texts) > 2 and texts[2] in KINDS:
        return ["fresh", "claimed"] + list(KINDS[texts[2]])
    return SHAPES[texts[0]].split() if texts[0] in SHAPES else None


def _told(shape, text):
    """What the text tells by the shape, None if it is not of this shape."""
    if shape == "tables":
        names = text.split(",")
        return names if len(names) <= MOST_MAKERS and all([is_name(name) for name in names]) else None
    if shape in ("rows", "row", "power", "count", "word"):
        return _numbers_told(shape, text) if _has_short_numbers(text) else None
    # Words of claims are of the signs of names, too.
    return text if is_name(text) else None


def _numbers_told(shape, text):
    if shape == "rows":
        return rows_of(text)
    if shape == "row":
        return row_of(text)
    if shape == "word":
        letters = letters_of(text)
        return None if letters is None or len(letters) > MOST_LETTERS or 0 in letters else letters
    number = integer_of(text)
    if number is None or (shape == "power" and abs(number) > MOST_POWER) or (shape == "count" and number < 0):
        return None
    return number


def _has_short_numbers(text):
    """Whether no number of the text has more figures than numbers of commands may have."""
    plain = text.replace(";", ",").replace(".", ",").replace("-", "")
    return all([len(figures) <= MOST_FIGURES for figures in plain.split(",")])
