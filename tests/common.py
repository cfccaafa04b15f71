"""What several tests share."""

import copy
import random
import unittest
from itertools import permutations, product
from math import isqrt

from keptbowls.forms import Form
from keptbowls.lots import Lot
from keptbowls.tables import Table, idle

BIG = 10 ** 29 + 7


class Odd:
    """A value of no kind that the program knows."""


# No INTEGER, row, grid, list of them, Table or Form is among these.
WRONG = [None, True, False, "", "1", "ab", b"1", {}, {1: 2}, {1}, frozenset(), range(2), Odd(), Odd, len, 1j, ...]

# The rows of forms that are no bowls.
NO_BOWLS = [[[0]], [[-1]], [[-BIG]], [[0, 0], [0, 0]], [[1, 2], [2, 1]], [[1, 1], [1, 1]], [[0, 1], [1, 0]],
            [[0, 1], [1, 5]], [[-1, 0], [0, -1]], [[-1, 3], [3, 5]], [[0, 0, 0], [0, 0, 0], [0, 0, 0]],
            [[0, 0, 0], [0, 1, 0], [0, 0, 1]], [[1, 1, 0], [1, 1, 0], [0, 0, 1]], [[1, 2, 0], [2, 1, 0], [0, 0, -1]],
            [[2, 1, 1], [1, 2, 1], [1, 1, 0]], [[1, 0, 0], [0, 1, 0], [0, 0, 0]], [[1, 1, 1], [1, 2, 2], [1, 2, 2]],
            [[2, 1, 5], [1, 2, 5], [5, 5, 1]], [[-1, 0, 0], [0, -1, 0], [0, 0, 1]], [[1, 0, BIG], [0, 1, 0], [BIG, 0, 1]]]
# The makers of finite lots, and how many members these have.
PLANE = {"1": ([[[1, 0], [0, 1]]], 1), "2": ([[[-1, 0], [0, -1]]], 2), "3": ([[[-1, -1], [1, 0]]], 3),
         "4": ([[[0, -1], [1, 0]]], 4), "6": ([[[0, -1], [1, 1]]], 6), "m": ([[[1, 0], [0, -1]]], 2),
         "c": ([[[0, 1], [1, 0]]], 2), "2mm": ([[[-1, 0], [0, -1]], [[1, 0], [0, -1]]], 4),
         "c2mm": ([[[-1, 0], [0, -1]], [[0, 1], [1, 0]]], 4), "3m1": ([[[-1, -1], [1, 0]], [[0, 1], [1, 0]]], 6),
         "31m": ([[[-1, -1], [1, 0]], [[0, -1], [-1, 0]]], 6), "4mm": ([[[0, -1], [1, 0]], [[1, 0], [0, -1]]], 8),
         "6mm": ([[[0, -1], [1, 1]], [[0, 1], [1, 0]]], 12)}
QUARTER, ROUND = [[0, -1, 0], [1, 0, 0], [0, 0, 1]], [[0, 0, 1], [1, 0, 0], [0, 1, 0]]
CONTRARY, UPSIDE = [[-1, 0, 0], [0, -1, 0], [0, 0, -1]], [[1, 0, 0], [0, 1, 0], [0, 0, -1]]
SIXTH, LEFTWARDS = [[0, -1, 0], [1, 1, 0], [0, 0, 1]], [[-1, 0, 0], [0, 1, 0], [0, 0, 1]]
SPACE = [([[[1, 0, 0], [0, 1, 0], [0, 0, 1]]], 1), ([CONTRARY], 2), ([UPSIDE], 2), ([ROUND], 3), ([QUARTER], 4),
         ([SIXTH], 6), ([UPSIDE, CONTRARY], 4), ([UPSIDE, LEFTWARDS, CONTRARY], 8), ([QUARTER, CONTRARY], 8),
         ([QUARTER, UPSIDE, LEFTWARDS], 16), ([SIXTH, CONTRARY], 12), ([ROUND, UPSIDE], 24), ([QUARTER, ROUND], 24), ([ROUND, [[-1, 0, 0], [0, -1, 0], [1, 1, 1]]], 24),
         ([SIXTH, UPSIDE, [[0, 1, 0], [1, 0, 0], [0, 0, 1]]], 24), ([QUARTER, ROUND, CONTRARY], 48),
         ([QUARTER, ROUND, CONTRARY, UPSIDE], 48)]
# The makers of endless lots; those of the first four all come home.
ENDLESS = [[[[1, 0], [0, -1]], [[1, 1], [0, -1]]], [[[0, -1], [1, 0]], [[0, -1], [1, 1]]],
           [[[-1, 0, 0], [0, 1, 0], [0, 0, 1]], [[-1, 0, 1], [0, 1, 0], [0, 0, 1]]],
           [ROUND, [[-1, 0, 0], [0, -1, 0], [1, 0, 1]]],
           [[[1, 1], [0, 1]]], [[[-1, 1], [0, -1]]], [[[2, 1], [1, 1]]], [[[0, 1], [1, 1]]], [[[1, 3], [0, 1]]],
           [[[-1, 0], [0, -1]], [[1, 0], [5, 1]]], [[[1, BIG], [0, 1]]], [[[1, 0, 0], [0, 1, 7], [0, 0, 1]]],
           [[[0, 0, 1], [1, 0, 0], [0, 1, 1]]], [[[0, -1, 1], [1, 0, 0], [0, 0, 1]], [[0, -1, 0], [1, 0, 0], [0, 0, 1]]]]


class Case(unittest.TestCase):
    """A test case that asks for errors by their very class and attribute."""

    def fails(self, error, call, *args, **attributes):
        with self.assertRaises(error) as caught:
            call(*args)
        self.assertIs(type(caught.exception), error)
        for name, value in attributes.items():
            told = getattr(caught.exception, name)
            self.assertIs(type(told), type(value))
            self.assertEqual(told, value)

    def fails_for_all(self, error, call, values):
        for value in values:
            with self.subTest(value=value):
                self.fails(error, lambda: call(value), value=value)

    def leaves(self, call, *args):
        """Calls, and asks that what was passed is as it was; returns the answer."""
        ahead = copy.deepcopy(args)
        told = call(*args)
        self.assertEqual(args, ahead)
        return told

    def same_again(self, call, *args):
        """Two calls return equal lists that are not the same ones, even after one was spoilt."""
        first = call(*args)
        kept = copy.deepcopy(first)
        self.assertIs(type(first), list)
        first.append("spoilt")
        self.assertEqual(call(*args), kept)

    def is_table(self, told, rows):
        self.assertIs(type(told), Table)
        self.assertEqual(told.rows, rows)


def by_hand(rows):
    """The determinant as the sum over all permutations."""
    whole = 0
    for order in permutations(range(len(rows))):
        term = 1
        for at, place in enumerate(order):
            term *= rows[at][place]
        turns = sum(order[i] > order[j] for j in range(len(order)) for i in range(j))
        whole += term * (-1) ** turns
    return whole


def grids_times(one, other):
    """The product of two grids by its sums."""
    many = range(len(one))
    return tuple(tuple(sum(one[i][k] * other[k][j] for k in many) for j in many) for i in many)


def some_tables(size, many, seed=1, greatest=3):
    """So many Tables, products of slants, of exchanges and of mirrors."""
    source = random.Random(f"{size} {many} {seed}")
    told = []
    for _ in range(many):
        rows = [[int(i == j) for j in range(size)] for i in range(size)]
        for _ in range(6):
            at, to = source.randrange(size), source.randrange(size)
            factor = source.randint(-greatest, greatest)
            if at != to:
                rows[at] = [x + factor * y for x, y in zip(rows[at], rows[to])]
            if source.random() < 0.4:
                rows[at] = [-x for x in rows[at]]
            if source.random() < 0.4:
                rows[at], rows[to] = rows[to], rows[at]
        told.append(Table(rows))
    return told


def some_rows(size, many, seed=1, greatest=9):
    source = random.Random(f"row {size} {many} {seed}")
    return [tuple(source.randint(-greatest, greatest) for _ in range(size)) for _ in range(many)]


def some_grids(size, many, seed=1, greatest=4):
    """Symmetric grids."""
    source = random.Random(f"grid {size} {many} {seed}")
    told = []
    for _ in range(many):
        rows = [[0] * size for _ in range(size)]
        for i in range(size):
            for j in range(i, size):
                rows[i][j] = rows[j][i] = source.randint(-greatest, greatest)
        told.append(rows)
    return told


def worth_by_hand(rows, row):
    many = range(len(rows))
    return sum(row[i] * rows[i][j] * row[j] for i in many for j in many)


def rows_in_box(rows, many):
    """The sorted list of all rows of a worth of at most many, tried one by one in a box that has all."""
    size = len(rows)
    whole = by_hand(rows)
    sides = []
    for place in range(size):
        left = [[rows[i][j] for j in range(size) if j != place] for i in range(size) if i != place]
        far = isqrt(many * by_hand(left) // whole)
        sides.append(range(-far, far + 1))
    return [row for row in product(*sides) if worth_by_hand(rows, row) <= many]


def leads_by_hand(rows, goal):
    """The rows of all tables that lead the one form to the other one, sorted."""
    size = len(rows)
    known = rows_in_box(rows, max(goal[i][i] for i in range(size)))
    choices = [[row for row in known if worth_by_hand(rows, row) == goal[i][i]] for i in range(size)]
    told = []
    for columns in product(*choices):
        grid = tuple(zip(*columns))
        if by_hand(grid) in (1, -1) and grids_times(grids_times(columns, rows), grid) == tuple(map(tuple, goal)):
            told.append(grid)
    return sorted(told)


def some_bowls(size, many, seed=1, greatest=3):
    """The rows of bowls, each the sums of products of the columns of a grid that has a determinant."""
    source = random.Random(f"bowl {size} {many} {seed}")
    told = []
    while len(told) < many:
        lines = [[source.randint(-greatest, greatest) for _ in range(size)] for _ in range(size + source.randint(0, 1))]
        rows = [[sum(line[i] * line[j] for line in lines) for j in range(size)] for i in range(size)]
        if by_hand(rows) != 0:
            told.append(rows)
    return told


def some_lots():
    """Lots that are finite, with their count, and endless ones, with None."""
    for makers, many in [([[[1]]], 1), ([[[-1]]], 2), ([[[1]], [[-1]], [[1]], [[-1]]], 2)] + list(PLANE.values()) + SPACE:
        yield Lot([Table(rows) for rows in makers]), many
    for makers in ENDLESS:
        yield Lot([Table(rows) for rows in makers]), None


def finite_lots(most=48):
    return [lot for lot, many in some_lots() if many is not None and many <= most]


def endless_lots():
    return [lot for lot, many in some_lots() if many is None]


def lots_turned(lot, many, seed=1, greatest=3):
    """The lot, and Lots of its makers turned by so many tables of some steps."""
    yield lot
    for table in some_tables(lot.size, many, seed=seed, greatest=greatest):
        yield Lot([table * maker * table.undone() for maker in lot.makers()])


def rows_of_lot(lot):
    """The rows of all members of the lot, sorted, by hand."""
    return members_by_hand(lot.makers())


def led_by_hand(rows, row):
    return tuple(sum(number * factor for number, factor in zip(line, row)) for line in rows)


def members_by_hand(makers, most=60):
    """The rows of all products of makers and of undone ones, sorted; of an endless lot some."""
    steps = [maker.rows for maker in makers] + [maker.undone().rows for maker in makers]
    found = {idle(makers[0].size).rows}
    edge = list(found)
    while edge and len(found) < most:
        edge = sorted({grids_times(one, step) for one in edge for step in steps} - found)
        found.update(edge)
    return sorted(found)


def wrong_bowls():
    """What is no bowl, of every kind."""
    return WRONG + [0, 1, (1,), [[1]], idle(2), Form, [Form([[1]])]] + [Form(rows) for rows in NO_BOWLS]


def wrong_lots():
    """What is no Lot, of every kind."""
    return WRONG + [0, 1, idle(2), [idle(2)], (idle(2),), Form([[1]]), Lot]


def wrong_rows(size):
    """What is no row of this size, of every kind."""
    return WRONG + [0, 1, [], (), [1] * (size + 1), [1] * (size - 1), (0,) * (size + 1), [True] + [0] * (size - 1),
                    [0] * (size - 1) + [None], ["1"] * size, [[1]] * size, idle(size), idle(size).rows + (1, 2, 3)]


def wrong_makers():
    """Pairs of what are no makers, and the position that the error tells."""
    six, slant = Table([[0, -1], [1, 1]]), Table([[1, 1], [0, 1]])
    for value in WRONG + [0, 1, six, [], (), [six] * 5, [None] * 5, six.rows + six.rows + (1,)]:
        yield value, None
    for value in ([None], [1, six], [Form([[1]]), six], [six.rows], (True, idle(3))):
        yield value, 0
    for value in ([six, None], [six, idle(1), None], (six, idle(3)), [six, 5, 5, 5], [idle(1), six, six]):
        yield value, 1
    yield [six, slant, idle(3), None], 2
    yield (six, six, six, Form([[1, 0], [0, 1]])), 3
    yield [idle(3), idle(3), idle(3), six], 3
