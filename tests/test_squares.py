from fractions import Fraction

from common import BIG, WRONG, Case, some_grids, some_rows
from keptbowls.errors import InvalidForm
from keptbowls.forms import Form, corners, sum_form
from keptbowls.squares import is_squares, squares
from keptbowls.tables import idle

SIX = Form([[2, 1], [1, 2]])
WELL = Form([[2, 1, 0], [1, 2, 1], [0, 1, 3]])


def some_bowls(size, many, greatest=4):
    """Grids led by hand to be above 0: twice the product of a grid with itself, and 1 at each (i, i)."""
    told = []
    for rows in some_grids(size, many, greatest=greatest):
        told.append(Form([[2 * sum(a * b for a, b in zip(one, other)) + (i == j)
                           for j, other in enumerate(rows)] for i, one in enumerate(rows)]))
    return told


def worth_by(told, row):
    return sum(Fraction(sum(a * b for a, b in zip(line, row)) ** 2, bottom) for bottom, line in told)


class Squares(Case):
    def test_squares_of_bowls(self):
        forms = [SIX, WELL, Form([[1]]), Form([[BIG]]), sum_form(2), sum_form(3), Form([[5, 7], [7, 10]]),
                 Form([[BIG, 1], [1, BIG]]), Form([[BIG, 2, 1], [2, BIG, 7], [1, 7, BIG]])]
        forms += [form for size in (1, 2, 3) for form in some_bowls(size, 15)]
        for form in forms:
            told = squares(form=form)
            self.assertEqual([type(told), len(told)], [list, form.size])
            for place, (bottom, row) in enumerate(told):
                self.assertEqual([type(told[place]), type(bottom), type(row)], [tuple, int, tuple])
                self.assertTrue(bottom >= 1 and len(row) == form.size)
                self.assertTrue(row[place] != 0 and not any(row[:place]))
            for row in some_rows(form.size, 10):
                self.assertEqual(worth_by(told, row), form.worth(row))
            self.assertIs(is_squares(form, told), True)
        self.same_again(squares, SIX)

    def test_none_of_others(self):
        for rows in ([[0]], [[-1]], [[1, 2], [2, 1]], [[1, 1], [1, 1]], [[0, 1], [1, 0]], [[0, 0], [0, 5]],
                     [[1, 0, 0], [0, 0, 0], [0, 0, 1]], [[1, 1, 0], [1, 1, 0], [0, 0, 1]],
                     [[1, 0, 0], [0, 1, 0], [0, 0, 0]], [[1, 0, 0], [0, 1, 0], [0, 0, -1]],
                     [[-1, 0, 0], [0, -1, 0], [0, 0, 1]], [[-1, 0], [0, -1]]):
            self.assertIsNone(squares(Form(rows)))
            self.assertIs(is_squares(Form(rows), [(1, (1, 0, 0)), (1, (0, 1, 0)), (1, (0, 0, 1))][:len(rows)]), False)
        for size in (1, 2, 3):
            for rows in some_grids(size, 40):
                self.assertEqual(squares(Form(rows)) is None, min(corners(Form(rows))) <= 0)

    def test_wrong_forms(self):
        wrong = WRONG + [1, SIX.rows, idle(2)]
        self.fails_for_all(InvalidForm, squares, wrong)
        self.fails_for_all(InvalidForm, lambda form: is_squares(form, None), wrong)


class IsSquares(Case):
    def test_right_ones(self):
        for value in ([(2, (2, 1)), (6, (0, 3))], ((2, (2, 1)), (6, (0, 3))), [(2, [2, 1]), (6, [0, 3])],
                      [(8, (4, 2)), (6, (0, -3))], [(2, (-2, -1)), (24, (0, 6))], [(8, (-4, -2)), (600, (0, 30))]):
            self.assertIs(self.leaves(is_squares, SIX, value), True)
        self.assertIs(is_squares(form=Form([[3]]), value=[(3, (3,))]), True)
        self.assertIs(is_squares(Form([[3]]), [(12, (-6,))]), True)
        self.assertIs(is_squares(sum_form(3), [(1, (1, 0, 0)), (4, (0, -2, 0)), (9, (0, 0, 3))]), True)
        great = [(BIG, (BIG, 0)), (BIG * BIG, (0, BIG))]
        self.assertIs(is_squares(Form([[BIG, 0], [0, 1]]), great), True)

    def test_wrong_ones(self):
        right = [(2, (2, 1)), (6, (0, 3))]
        for value in ([(2, (2, 1)), (2, (0, 3))], right[:1], right + right[1:], right[::-1], [], (),
                      [(0, (2, 1)), (6, (0, 3))], [(-2, (2, 1)), (6, (0, 3))], [(2, (2, 1)), (-6, (0, 3))],
                      [(2, (2, 1)), (0, (0, 3))], [(2, (2, 1)), (6, (0, 0))], [(2, (2, 1)), (6, (1, 3))],
                      [(2, (0, 1)), (6, (0, 3))], [[2, (2, 1)], (6, (0, 3))], [(2, (2, 1)), [6, (0, 3)]],
                      [(2, (2, 1), 1), (6, (0, 3))], [(2,), (6, (0, 3))], [(2, (2, 1, 0)), (6, (0, 3))],
                      [(2, (2,)), (6, (0, 3))], [(2, (2, True)), (6, (0, 3))], [(2, (2, 1)), (6, (False, 3))],
                      [(2, 2), (6, 3)], [None, None], [(2, (2, 2)), (6, (0, 3))], [("2", (2, 1)), (6, (0, 3))],
                      [(2, (2, -1)), (6, (0, 3))], [((2, 1), 2), ((0, 3), 6)], {0: (2, (2, 1)), 1: (6, (0, 3))},
                      [(6, (3, 0)), (2, (1, 2))], [(2, (1, 2)), (6, (3, 0))], right + [(1, (0, 0, 1))],
                      [(2, {2, 1}), (6, (0, 3))], [(2, "21"), (6, "03")]):
            with self.subTest(value=value):
                self.assertIs(is_squares(SIX, value), False)
        for value in WRONG + [1, SIX, [SIX, SIX]]:
            self.assertIs(is_squares(SIX, value), False)
        self.assertIs(is_squares(Form([[1]]), [(True, (1,))]), False)
        self.assertIs(is_squares(Form([[1]]), [(1, (True,))]), False)
        self.assertIs(is_squares(Form([[1]]), [(1, (1,))]), True)

    def test_noughts_at_the_own_place(self):
        for rows, value in (([[0]], [(1, (0,))]), ([[1, 1], [1, 1]], [(1, (1, 1)), (1, (0, 0))]),
                            ([[0, 0], [0, 4]], [(1, (0, 0)), (1, (0, 2))]), ([[0, 0], [0, 4]], [(1, (0, 2)), (1, (0, 0))]),
                            ([[1, 0, 0], [0, 0, 0], [0, 0, 1]], [(1, (1, 0, 0)), (1, (0, 0, 1)), (1, (0, 0, 0))])):
            self.assertIs(is_squares(Form(rows), value), False)

    def test_each_number_counts(self):
        told = squares(WELL)
        for place in range(3):
            bottom, row = told[place]
            for wrong in [(bottom + 1, row)] + [(bottom, row[:at] + (row[at] + 1,) + row[at + 1:]) for at in range(3)]:
                self.assertIs(is_squares(WELL, told[:place] + [wrong] + told[place + 1:]), False)
        self.assertIs(is_squares(WELL, told[:2]), False)
        self.assertIs(is_squares(WELL, told + told[2:]), False)
