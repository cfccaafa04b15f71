"""Equations over integers, and bases of their solutions."""

from keptbowls.basics import is_integer, is_list
from keptbowls.errors import InvalidEquations
from keptbowls.grids import across, scalar, unit_rows

MOST_EQUATIONS = 60
MOST_LENGTH = 6


def solution_basis(equations):
    """A basis of solutions, a list of tuples."""
    _check_equations(equations)
    return kernel(equations)


def is_solution(equations, value):
    """Whether the value is a solution."""
    _check_equations(equations)
    if not _is_line(value, len(equations[0])):
        return False
    return all([scalar(line, value) == 0 for line in equations])


def is_solution_basis(equations, value):
    """Whether the value is a basis of solutions."""
    told = solution_basis(equations)
    if not is_list(value) or len(value) != len(told):
        return False
    if not all([is_solution(equations, one) for one in value]):
        return False
    return echelon(value) == told


def kernel(lists):
    """The basis of solutions that is its own echelon; the lists are of one length, however great."""
    many = len(lists)
    # Each place stands beside what it brings into the lists: where that is nought, a solution is left.
    joined = [brought + place for brought, place in zip(across(lists), unit_rows(len(lists[0])))]
    return [row[many:] for row in echelon(joined) if not any(row[:many])]


def echelon(lists):
    """The one list of tuples, told by the whole sums of the lists alone, that has the same whole sums.

    Each tuple begins with more noughts than the one ahead of it; its first other number is above 0, and
    above the numbers of the tuples ahead at this place, which are not below 0.
    """
    heads = {}
    for line in lists:
        heads = _joined(heads, tuple(line))
    done = []
    # From the last one on: so each is reduced by tuples that are reduced, and numbers stay small.
    for place in sorted(list(heads), reverse=True):
        row = heads[place]
        for below, head in done:
            row = _sum_of(1, row, -(row[below] // head[below]), head)
        done = [(place, row)] + done
    return [row for _, row in done]


def _joined(heads, line):
    """The tuples by the places of their first number that is not 0, with the line taken in."""
    told = {place: heads[place] for place in heads}
    rest = line
    for place in range(len(line)):
        if rest[place] == 0:
            continue
        if place not in told:
            told[place] = rest if rest[place] > 0 else _sum_of(-1, rest, 0, rest)
            return told
        head = told[place]
        one, other = head[place], rest[place]
        common, by, more = _common(one, other)
        # Both sums together have the same whole sums as both tuples: the rest has 0 at the place now.
        told[place] = _sum_of(by, head, more, rest)
        rest = _sum_of(one // common, rest, -(other // common), head)
    return told


def _sum_of(factor, row, other_factor, other):
    return tuple([factor * number + other_factor * more for number, more in zip(row, other)])


def _common(one, other):
    """The greatest common divisor, above 0, and by which factors both numbers add up to it."""
    left, right = (one, 1, 0), (other, 0, 1)
    while right[0] != 0:
        left, right = right, _sum_of(1, left, -(left[0] // right[0]), right)
    return left if left[0] > 0 else _sum_of(-1, left, 0, left)


def _is_line(value, length):
    return is_list(value) and len(value) == length and all([is_integer(number) for number in value])


def _check_equations(equations):
    if not is_list(equations) or not 1 <= len(equations) <= MOST_EQUATIONS:
        raise InvalidEquations(equations)
    first = equations[0]
    if not is_list(first) or not 1 <= len(first) <= MOST_LENGTH:
        raise InvalidEquations(equations)
    if not all([_is_line(line, len(first)) for line in equations]):
        raise InvalidEquations(equations)
