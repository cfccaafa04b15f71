"""The forms and the rows that makers keep."""

from keptbowls.basics import is_list
from keptbowls.equations import is_solution_basis, kernel, solution_basis
from keptbowls.errors import InvalidBasis, NotKept
from keptbowls.forms import Form, check_form
from keptbowls.grids import across, unit_rows
from keptbowls.tables import check_alike, check_table
from keptbowls.words import check_makers


def keeps(table, form):
    """Whether the table keeps the form."""
    check_table(table)
    check_form(form)
    return form.led(table) == form


def kept_forms(makers):
    """A basis of the makers' kept forms, a list of Forms."""
    check_makers(makers)
    size = makers[0].size
    return [_form_of(size, numbers) for numbers in solution_basis(_form_equations(makers))]


def is_kept_basis(makers, value):
    """Whether the value is a basis of the makers' kept forms."""
    check_makers(makers)
    if not is_list(value):
        return False
    if not all([isinstance(form, Form) and form.size == makers[0].size for form in value]):
        return False
    return is_solution_basis(_form_equations(makers), [_numbers(form) for form in value])


def kept_rank(makers):
    """How many forms a basis of the makers' kept forms has."""
    return len(kept_forms(makers))


def kept_parts(makers, basis, form):
    """The integers by which the forms of the basis are multiplied and added up to the form."""
    if not is_kept_basis(makers, basis):
        raise InvalidBasis(basis)
    check_form(form)
    check_alike(makers[0], form)
    if not all([keeps(maker, form) for maker in makers]):
        raise NotKept()
    # The form itself is one unknown more: the one solution that there is takes it once, forward or back.
    columns = [_numbers(part) for part in basis] + [_numbers(form.times(-1))]
    told = kernel(across(columns))[0]
    return [told[-1] * number for number in told[:-1]]


def kept_rows(makers):
    """A basis of the makers' kept rows, a list of tuples."""
    check_makers(makers)
    return solution_basis(_row_equations(makers))


def is_rows_basis(makers, value):
    """Whether the value is a basis of the makers' kept rows."""
    check_makers(makers)
    return is_solution_basis(_row_equations(makers), value)


def _places(size):
    """The places (i, j) with i not above j, line by line."""
    return [(at, place) for at in range(size) for place in range(at, size)]


def _numbers(form):
    """The numbers that tell the form."""
    return tuple([form.rows[at][place] for at, place in _places(form.size)])


def _form_of(size, numbers):
    """The Form that the numbers tell."""
    told = {spot: number for spot, number in zip(_places(size), numbers)}
    return Form([[told[(min(at, place), max(at, place))] for place in range(size)] for at in range(size)])


def _form_equations(makers):
    """Equations of the numbers of forms: what each maker changes of a form is 0."""
    size = makers[0].size
    units = [_form_of(size, numbers) for numbers in unit_rows(len(_places(size)))]
    lines = []
    for maker in makers:
        lines.extend(across([_numbers(unit.led(maker) + unit.times(-1)) for unit in units]))
    return lines


def _row_equations(makers):
    """Equations of rows: what each maker changes of a row is 0."""
    units = unit_rows(makers[0].size)
    lines = []
    for maker in makers:
        for row, unit in zip(maker.rows, units):
            lines.append([number - one for number, one in zip(row, unit)])
    return lines
