"""Claims, their contraries, and the papers that show that they are true."""

from keptbowls.basics import is_integer, is_list
from keptbowls.bowls import is_bowl, is_pit, pit
from keptbowls.counts import MOST_COUNTED, MOST_ROWS, counted, first_unlike
from keptbowls.errors import BowlError, InvalidClaim, LimitError, StateError, TooMany
from keptbowls.forms import Form
from keptbowls.grids import across, unit_rows
from keptbowls.kept import keeps
from keptbowls.leads import is_lead, is_unlike, lead
from keptbowls.lots import Lot
from keptbowls.orders import home, order, rest_order
from keptbowls.rows import is_row_of
from keptbowls.squares import is_squares, squares
from keptbowls.tables import Table, check_alike, in_sequence
from keptbowls.verdicts import MOST_TIMES, endless_paper, is_bowl_paper, is_endless_paper, kept_bowl
from keptbowls.words import is_word

PAIRS = (("finite", "endless"), ("bowl", "pit"), ("keeps", "breaks"), ("led", "unlike"), ("member", "outside"),
         ("home", "never"))
# The kinds of the parts behind the words.
KINDS = {"finite": ("lot",), "endless": ("lot",), "bowl": ("form",), "pit": ("form",), "keeps": ("table", "form"),
         "breaks": ("table", "form"), "led": ("form", "form"), "unlike": ("form", "form"), "member": ("lot", "table"),
         "outside": ("lot", "table"), "home": ("table",), "never": ("table",)}
# More rows than any bowl has of the worths that are counted.
ALL_ROWS = 1000000


def words():
    """The list of the tuples of the two words of each line."""
    return list(PAIRS)


def is_claim(value):
    """Whether the value is a claim."""
    return truth_of(value) is not None


def is_true(claim):
    """Whether the claim is true."""
    told = truth_of(claim)
    if told is None:
        raise InvalidClaim(claim)
    return told


def contrary(claim):
    """The claim with the other word of the line, and the same parts."""
    _check_claim(claim)
    return (contrary_of(claim[0]),) + claim[1:]


def paper_of(claim):
    """A paper of the claim, None if it is not true."""
    return _paper(claim[0], claim[1], claim[-1]) if is_true(claim) else None


def is_paper_of(claim, value):
    """Whether the value is a paper of the claim."""
    _check_claim(claim)
    return _is_paper(claim[0], claim[1], claim[-1], value)


def truth_of(value):
    """Whether the value is a claim that is true, or one that is not; None if it is no claim."""
    if not isinstance(value, tuple) or len(value) == 0 or not isinstance(value[0], str) or value[0] not in KINDS:
        return None
    if tuple([kind_of(part) for part in value[1:]]) != KINDS[value[0]]:
        return None
    first, _ = _line_of(value[0])
    try:
        holds = _holds(first, value[1], value[-1])
    except (BowlError, StateError, LimitError):
        return None
    return holds == (value[0] == first)


def kind_of(value):
    """The word for a table, a form or a lot, None for any other value."""
    if isinstance(value, Table):
        return "table"
    if isinstance(value, Form):
        return "form"
    return "lot" if isinstance(value, Lot) else None


def contrary_of(word):
    """The other word of the word's line."""
    one, other = _line_of(word)
    return other if word == one else one


def _check_claim(claim):
    if not is_claim(claim):
        raise InvalidClaim(claim)


def _line_of(word):
    """The two words of the word's line."""
    return [line for line in PAIRS if word in line][0]


def _holds(first, one, other):
    """Whether the claim with the first word of a line is true; some errors tell that it is no claim."""
    if first == "finite":
        return one.is_finite
    if first == "bowl":
        return is_bowl(one)
    if first == "keeps":
        return keeps(one, other)
    if first == "led":
        return lead(one, other) is not None
    if first == "member":
        check_alike(one, other)
        return one.has(other)
    return order(one) is not None


def _paper(word, one, other):
    """A paper of the true claim."""
    if word == "finite":
        return kept_bowl(one)
    if word == "endless":
        return endless_paper(one)
    if word == "bowl":
        return squares(one)
    if word == "pit":
        return pit(one)
    if word == "keeps":
        return _led_units(one)
    if word == "breaks":
        return _breaking_row(one, other)
    if word == "led":
        return lead(one, other)
    if word == "unlike":
        return _least_unlike(one, other)
    if word == "member":
        return one.word_of(other)
    if word == "outside":
        return one.members()
    # Of a table that comes home this is the order, too.
    return rest_order(one)


def _is_paper(word, one, other, value):
    """Whether the value is a paper of the claim."""
    if word == "finite":
        return is_bowl_paper(one, value)
    if word == "endless":
        return is_endless_paper(one, value)
    if word == "bowl":
        return is_squares(one, value)
    if word == "pit":
        return is_pit(one, value)
    if word == "keeps":
        return _is_rows(other.size, value) and keeps(one, other) and [tuple(row) for row in value] == _led_units(one)
    if word == "breaks":
        return is_row_of(other.size, value) and _breaks_at(one, other, value)
    if word == "led":
        return is_lead(one, other, value)
    if word == "unlike":
        return is_unlike(one, other, value)
    if word == "member":
        return is_word(value, len(one.makers())) and one.product(value) == other
    if word == "outside":
        return not one.has(other) and _is_tables(value) and in_sequence(value) == one.members()
    if word == "home":
        return is_integer(value) and value > 0 and home(one, value)
    return is_integer(value) and 1 <= value <= MOST_TIMES and order(one) is None and value % rest_order(one) == 0


def _led_units(table):
    """The list of the rows to which the table leads the rows of the idle table."""
    return list(across(table.rows))


def _breaking_row(table, form):
    """A row whose worth is another one than that of the row to which the table leads it."""
    units = unit_rows(form.size)
    # Forms that have like worths of all these rows are the same one.
    sums = [tuple([number + more for number, more in zip(one, other)]) for one in units for other in units]
    return [row for row in list(units) + sums if _breaks_at(table, form, row)][0]


def _breaks_at(table, form, row):
    return form.worth(row) != form.worth(table.lead(row))


def _least_unlike(bowl, goal):
    """The least worth of which both bowls have unlike many rows; TooMany if it cannot be judged."""
    many, worth = 1, None
    while worth is None:
        counts, others = counted(bowl, many, ALL_ROWS), counted(goal, many, ALL_ROWS)
        worth = first_unlike(counts, others)
        if worth is None and many == MOST_COUNTED:
            raise TooMany("worth", MOST_COUNTED)
        many = min(2 * many, MOST_COUNTED)
    if max(sum(counts[:worth + 1]), sum(others[:worth + 1])) > MOST_ROWS:
        raise TooMany("rows", MOST_ROWS)
    return worth


def _is_rows(size, value):
    return is_list(value) and all([is_row_of(size, row) for row in value])


def _is_tables(value):
    return is_list(value) and all([isinstance(one, Table) for one in value])
