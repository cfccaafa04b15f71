"""What several tests share."""

import copy
import random
import unittest
from itertools import permutations

from keptbowls.forms import Form
from keptbowls.tables import Table, idle

BIG = 10 ** 29 + 7


class Odd:
    """A value of no kind that the program knows."""


# No INTEGER, row, grid, list of them, Table or Form is among these.
WRONG = [None, True, False, "", "1", "ab", b"1", {}, {1: 2}, {1}, frozenset(), range(2), Odd(), Odd, len, 1j, ...]


class Case(unittest.TestCase):
    """A test case that asks for errors by their very class and attribute."""

    def fails(self, error, call, *args, **attributes):
        with self.assertRaises(error) as caught:
            call(*args)
        self.assertIs(type(caught.exception), error)
        for name, value in attributes.items():
            told = getattr(caught.exception, name)
            self.assertIs(type(told), type(value))
            self.assertEqual(told, value)

    def fails_for_all(self, error, call, values):
        for value in values:
            with self.subTest(value=value):
                self.fails(error, lambda: call(value), value=value)

    def leaves(self, call, *args):
        """Calls, and asks that what was passed is as it was; returns the answer."""
        ahead = copy.deepcopy(args)
        told = call(*args)
        self.assertEqual(args, ahead)
        return told

    def same_again(self, call, *args):
        """Two calls return equal lists that are not the same ones, even after one was spoilt."""
        first = call(*args)
        kept = copy.deepcopy(first)
        self.assertIs(type(first), list)
        first.append("spoilt")
        self.assertEqual(call(*args), kept)

    def is_table(self, told, rows):
        self.assertIs(type(told), Table)
        self.assertEqual(told.rows, rows)


def by_hand(rows):
    """The determinant as the sum over all permutations."""
    whole = 0
    for order in permutations(range(len(rows))):
        term = 1
        for at, place in enumerate(order):
            term *= rows[at][place]
        turns = sum(order[i] > order[j] for j in range(len(order)) for i in range(j))
        whole += term * (-1) ** turns
    return whole


def grids_times(one, other):
    """The product of two grids by its sums."""
    many = range(len(one))
    return tuple(tuple(sum(one[i][k] * other[k][j] for k in many) for j in many) for i in many)


def some_tables(size, many, seed=1, greatest=3):
    """So many Tables, products of slants, of exchanges and of mirrors."""
    source = random.Random(f"{size} {many} {seed}")
    told = []
    for _ in range(many):
        rows = [[int(i == j) for j in range(size)] for i in range(size)]
        for _ in range(6):
            at, to = source.randrange(size), source.randrange(size)
            factor = source.randint(-greatest, greatest)
            if at != to:
                rows[at] = [x + factor * y for x, y in zip(rows[at], rows[to])]
            if source.random() < 0.4:
                rows[at] = [-x for x in rows[at]]
            if source.random() < 0.4:
                rows[at], rows[to] = rows[to], rows[at]
        told.append(Table(rows))
    return told


def some_rows(size, many, seed=1, greatest=9):
    source = random.Random(f"row {size} {many} {seed}")
    return [tuple(source.randint(-greatest, greatest) for _ in range(size)) for _ in range(many)]


def some_grids(size, many, seed=1, greatest=4):
    """Symmetric grids."""
    source = random.Random(f"grid {size} {many} {seed}")
    told = []
    for _ in range(many):
        rows = [[0] * size for _ in range(size)]
        for i in range(size):
            for j in range(i, size):
                rows[i][j] = rows[j][i] = source.randint(-greatest, greatest)
        told.append(rows)
    return told


def wrong_makers():
    """Pairs of what are no makers, and the position that the error tells."""
    six, slant = Table([[0, -1], [1, 1]]), Table([[1, 1], [0, 1]])
    for value in WRONG + [0, 1, six, [], (), [six] * 5, [None] * 5, six.rows + six.rows + (1,)]:
        yield value, None
    for value in ([None], [1, six], [Form([[1]]), six], [six.rows], (True, idle(3))):
        yield value, 0
    for value in ([six, None], [six, idle(1), None], (six, idle(3)), [six, 5, 5, 5], [idle(1), six, six]):
        yield value, 1
    yield [six, slant, idle(3), None], 2
    yield (six, six, six, Form([[1, 0], [0, 1]])), 3
    yield [idle(3), idle(3), idle(3), six], 3
