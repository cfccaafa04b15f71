from fractions import Fraction
from math import gcd

from common import BIG, WRONG, Case, by_hand, grids_times, some_grids, some_rows, some_tables
from keptbowls.errors import InvalidForm, InvalidNumber, InvalidRow, InvalidRows, InvalidSize, InvalidTable, UnlikeSizes
from keptbowls.forms import Form, corners, signs, sum_form
from keptbowls.tables import Table, idle

SIX = Form([[2, 1], [1, 2]])
SIZES = (1, 2, 3)


def nothing(size):
    return Form([[0] * size] * size)


class Making(Case):
    def test_what_it_keeps(self):
        for rows in ([[0]], ((-5,),), ([2, 1], (1, 2)), [[1, BIG], [BIG, 0]], [(1, 2, 3), [2, 0, -4], (3, -4, -1)]):
            form = self.leaves(Form, rows)
            told = tuple(tuple(row) for row in rows)
            self.assertEqual(form.rows, told)
            self.assertEqual([type(form.rows), {type(row) for row in form.rows}], [tuple, {tuple}])
            self.assertEqual([form.size, form.determinant], [len(rows), by_hand(rows)])
            self.assertEqual(repr(form), f"Form({told})")
        self.assertEqual([repr(SIX), repr(Form([[3]]))], ["Form(((2, 1), (1, 2)))", "Form(((3,),))"])
        self.assertEqual(Form(rows=[[1]]), sum_form(1))

    def test_it_copies_what_it_is_given(self):
        rows = [[1, 1], [1, 1]]
        form = Form(rows)
        rows[0][1] = 5
        rows.append([1])
        self.assertEqual([form.rows, form.size], [((1, 1), (1, 1)), 2])

    def test_no_rows(self):
        wrong = WRONG + [0, 1, [], (), [[]], [1], [[1, 0]], [[1], [0]], [[1, 0], [0]], [[1, 0], [0, 1], [0, 0]],
                         [[True]], [[1, False], [False, 1]], [[1, 1], [True, 1]], [[1, 0], None], ["10", "01"],
                         [[[1]]], [[1, 0, 0, 0], [0, 1, 0, 0], [0, 0, 1, 0], [0, 0, 0, 1]], [{1}], SIX, idle(2),
                         [[1, 2], [3, 1]], [[1, 2], [-2, 1]], [[1, 2, 3], [2, 1, 4], [3, 5, 1]],
                         [[1, 2, 3], [2, 1, 4], [0, 4, 1]], [[1, 2, 3], [0, 1, 4], [3, 4, 1]]]
        self.fails_for_all(InvalidRows, Form, wrong)

    def test_equal(self):
        self.assertTrue(SIX == Form(((2, 1), [1, 2])))
        self.assertFalse(SIX != Form(((2, 1), [1, 2])))
        for other in (Form([[2, 1], [1, 3]]), sum_form(2), nothing(1), SIX.rows, [[2, 1], [1, 2]], 2, None, "SIX"):
            self.assertIs(SIX == other, False)
            self.assertIs(SIX != other, True)
        self.assertFalse(sum_form(2) == idle(2))

    def test_properties_are_not_assigned(self):
        for name in ("rows", "size", "determinant"):
            self.assertRaises(AttributeError, setattr, SIX, name, 1)


class Worths(Case):
    def test_worths(self):
        self.assertEqual([SIX.worth([1, -1]), SIX.worth(row=(1, 0)), SIX.worth((0, 0))], [2, 2, 0])
        self.assertEqual(Form([[-3]]).worth([BIG]), -3 * BIG * BIG)
        for size in SIZES:
            many = range(size)
            for rows, row in zip(some_grids(size, 15), some_rows(size, 15)):
                told = sum(row[i] * rows[i][j] * row[j] for i in many for j in many)
                self.assertEqual(Form(rows).worth(row), told)
                self.assertEqual(self.leaves(Form(rows).worth, list(row)), told)

    def test_between(self):
        self.assertEqual([SIX.between([1, 0], [0, 1]), SIX.between(row=(1, 0), other=[1, 0])], [1, 2])
        for size in SIZES:
            many = range(size)
            rows = some_rows(size, 30)
            for grid, one, other in zip(some_grids(size, 15), rows, rows[15:]):
                form = Form(grid)
                told = form.between(one, other)
                self.assertEqual(told, sum(one[i] * grid[i][j] * other[j] for i in many for j in many))
                whole = form.worth([x + y for x, y in zip(one, other)])
                self.assertEqual(2 * told, whole - form.worth(one) - form.worth(other))
                self.assertEqual([form.between(other, one), form.between(one, one)], [told, form.worth(one)])

    def test_wrong_rows(self):
        wrong = WRONG + [1, [], [1], [1, 2, 3], [1, True], (False, 0), [[1], [2]], SIX]
        self.fails_for_all(InvalidRow, SIX.worth, wrong)
        self.fails_for_all(InvalidRow, lambda row: SIX.between(row, None), wrong)
        self.fails_for_all(InvalidRow, lambda row: SIX.between((1, 0), row), wrong)
        self.fails(InvalidRow, SIX.between, (1,), (1, 2, 3), value=(1,))
        self.fails(InvalidRow, SIX.between, (1, 1), (1, 2, 3), value=(1, 2, 3))


class Reckoning(Case):
    def test_sums(self):
        self.assertTrue(SIX + SIX == SIX.times(2))
        for size in SIZES:
            grids = some_grids(size, 10)
            for one, other, row in zip(grids, grids[1:], some_rows(size, 9)):
                told = Form(one) + Form(other)
                self.assertIs(type(told), Form)
                self.assertEqual(told.rows, tuple(tuple(x + y for x, y in zip(a, b)) for a, b in zip(one, other)))
                self.assertEqual(told.worth(row), Form(one).worth(row) + Form(other).worth(row))

    def test_sums_with_others(self):
        self.fails_for_all(InvalidForm, lambda value: SIX + value,
                           WRONG + [0, 1, SIX.rows, [[1, 0], [0, 1]], idle(2), idle(3)])
        self.fails(UnlikeSizes, lambda: SIX + sum_form(3))
        self.fails(UnlikeSizes, lambda: sum_form(1) + SIX)

    def test_times(self):
        self.assertEqual([SIX.times(3).rows, SIX.times(number=-1).rows, SIX.times(0)],
                         [((6, 3), (3, 6)), ((-2, -1), (-1, -2)), nothing(2)])
        self.assertEqual(SIX.times(BIG).rows, ((2 * BIG, BIG), (BIG, 2 * BIG)))
        self.assertIs(type(SIX.times(1)), Form)
        self.fails_for_all(InvalidNumber, SIX.times, WRONG + [[1], SIX])

    def test_led(self):
        self.assertEqual(SIX.led(Table([[1, 1], [0, 1]])).rows, ((2, 3), (3, 6)))
        self.assertEqual(SIX.led(table=idle(2)), SIX)
        for size in SIZES:
            tables = some_tables(size, 16)
            for grid, row, one, other in zip(some_grids(size, 15), some_rows(size, 15), tables, tables[1:]):
                form = Form(grid)
                told = form.led(one)
                self.assertIs(type(told), Form)
                self.assertEqual(told.worth(row), form.worth(one.lead(row)))
                columns = tuple(zip(*one.rows))
                self.assertEqual(told.rows, grids_times(grids_times(columns, form.rows), one.rows))
                self.assertEqual(form.led(one * other), told.led(other))
                self.assertEqual([told.determinant, told.divisor(), signs(told)],
                                 [form.determinant, form.divisor(), signs(form)])

    def test_led_by_others(self):
        self.fails_for_all(InvalidTable, SIX.led, WRONG + [1, SIX, ((1, 0), (0, 1))])
        self.fails(UnlikeSizes, SIX.led, idle(3))
        self.fails(UnlikeSizes, sum_form(3).led, idle(2))

    def test_divisor_and_single(self):
        self.assertEqual([SIX.times(3).divisor(), SIX.divisor(), SIX.times(-4).divisor()], [3, 1, 4])
        self.assertEqual([SIX.times(4).single(), SIX.times(-4).single()], [SIX, SIX.times(-1)])
        self.assertEqual([Form([[6, 0], [0, -15]]).divisor(), Form([[0, 4], [4, 6]]).divisor()], [3, 2])
        self.assertEqual([Form([[-7]]).divisor(), Form([[-7]]).single().rows], [7, ((-1,),)])
        self.assertEqual(SIX.times(BIG).single(), SIX)
        for size in SIZES:
            self.assertEqual([nothing(size).divisor(), nothing(size).single()], [0, nothing(size)])
            for rows in some_grids(size, 15):
                form = Form(rows).times(6)
                by = gcd(*[number for row in form.rows for number in row])
                self.assertEqual(form.divisor(), by)
                self.assertIs(type(form.single()), Form)
                self.assertEqual(form.single().times(by), form)

    def test_sum_form(self):
        self.assertEqual([sum_form(1).rows, sum_form(2).rows, sum_form(size=3).rows],
                         [((1,),), ((1, 0), (0, 1)), ((1, 0, 0), (0, 1, 0), (0, 0, 1))])
        self.assertIs(type(sum_form(2)), Form)
        self.fails_for_all(InvalidSize, sum_form, WRONG + [0, 4, -1, BIG, [2]])


class Corners(Case):
    def test_corners(self):
        self.assertEqual([corners(SIX), corners(form=Form([[-3]])), corners(nothing(3))], [[2, 3], [-3], [0, 0, 0]])
        self.assertEqual(corners(Form([[0, 1, 2], [1, 5, 0], [2, 0, 7]])), [0, -1, -27])
        for size in SIZES:
            for rows in some_grids(size, 15):
                told = corners(Form(rows))
                self.assertIs(type(told), list)
                self.assertEqual(told, [by_hand([row[:i] for row in rows[:i]]) for i in range(1, size + 1)])
                self.assertEqual(told[-1], Form(rows).determinant)
        self.same_again(corners, SIX)
        self.fails_for_all(InvalidForm, corners, WRONG + [1, SIX.rows, idle(2)])


def signs_by_squares(rows):
    """The signs by taking square after square off, in fractions."""
    rows = [[Fraction(x) for x in row] for row in rows]
    found = [0, 0, 0]
    while rows:
        size = len(rows)
        at = next((i for i in range(size) if rows[i][i] != 0), None)
        if at is None:
            pair = next(((i, j) for i in range(size) for j in range(i) if rows[i][j] != 0), None)
            if pair is None:
                found[2] += size
                break
            i, j = pair
            for k in range(size):
                rows[i][k] += rows[j][k]
            for k in range(size):
                rows[k][i] += rows[k][j]
            at = i
        head = rows[at]
        found[0 if head[at] > 0 else 1] += 1
        rest = [k for k in range(size) if k != at]
        rows = [[rows[i][j] - head[i] * head[j] / head[at] for j in rest] for i in rest]
    return tuple(found)


class Signs(Case):
    def test_examples(self):
        cases = {((0, 1), (1, 0)): (1, 1, 0), ((2, 1), (1, 2)): (2, 0, 0), ((0, 0), (0, 0)): (0, 0, 2),
                 ((1, 1), (1, 1)): (1, 0, 1), ((-1, 1), (1, -1)): (0, 1, 1), ((0,),): (0, 0, 1), ((-4,),): (0, 1, 0),
                 ((5,),): (1, 0, 0), ((0, 0, 0),) * 3: (0, 0, 3), ((1, 1, 1),) * 3: (1, 0, 2),
                 ((0, 0, 1), (0, 0, 0), (1, 0, 0)): (1, 1, 1), ((0, 1, 0), (1, 0, 0), (0, 0, -1)): (1, 2, 0),
                 ((-2, 1, 0), (1, -2, 0), (0, 0, -1)): (0, 3, 0), ((0, 0, 0), (0, 0, 0), (0, 0, 7)): (1, 0, 2)}
        for rows, told in cases.items():
            with self.subTest(rows=rows):
                self.assertEqual(signs(Form(rows)), told)
                self.assertEqual(signs(form=Form(rows).times(-BIG)), (told[1], told[0], told[2]))
                self.assertIs(type(signs(Form(rows))), tuple)

    def test_by_squares(self):
        for size in SIZES:
            for greatest in (1, 4, BIG):
                for rows in some_grids(size, 60, greatest=greatest):
                    self.assertEqual(signs(Form(rows)), signs_by_squares(rows))

    def test_wrong_forms(self):
        self.fails_for_all(InvalidForm, signs, WRONG + [1, SIX.rows, idle(2)])
