from common import BIG, WRONG, Case, by_hand, grids_times, some_rows, some_tables
from keptbowls.errors import (InvalidModulus, InvalidNumber, InvalidRow, InvalidRows, InvalidSize, InvalidTable,
                              NotUndone, TooMany, UnlikeSizes)
from keptbowls.forms import Form
from keptbowls.tables import Table, beside, idle, is_idle, polynomial, rests_alike, turned

SIX, SLANT = Table([[0, -1], [1, 1]]), Table([[1, 1], [0, 1]])
FAR = Table([[1, BIG], [0, 1]])
THREE = Table([[1, 2, 3], [0, 1, 4], [0, 0, -1]])
SIZES = (1, 2, 3)


class Making(Case):
    def test_what_it_keeps(self):
        for rows in ([[1]], ((-1,),), ([0, -1], (1, 1)), [[1, BIG], [0, 1]], [(1, 2, 3), [0, 1, 4], (0, 0, -1)]):
            table = self.leaves(Table, rows)
            told = tuple(tuple(row) for row in rows)
            self.is_table(table, told)
            self.assertEqual([type(table.rows), {type(row) for row in table.rows}], [tuple, {tuple}])
            self.assertEqual([table.size, table.determinant], [len(rows), by_hand(rows)])
            self.assertEqual(table.trace, sum(rows[at][at] for at in range(len(rows))))
            self.assertEqual(repr(table), f"Table({told})")
        self.assertEqual(repr(Table([[-1]])), "Table(((-1,),))")
        self.assertEqual(repr(SIX), "Table(((0, -1), (1, 1)))")
        self.assertEqual(Table(rows=[[1]]), idle(1))

    def test_determinants(self):
        for size in SIZES:
            for table in some_tables(size, 30):
                self.assertEqual(table.determinant, by_hand(table.rows))
                self.assertIn(table.determinant, (1, -1))

    def test_it_copies_what_it_is_given(self):
        rows = [[1, 1], [0, 1]]
        table = Table(rows)
        rows[0][1] = 5
        rows.append([1])
        self.assertEqual([table.rows, table.size], [((1, 1), (0, 1)), 2])

    def test_no_rows(self):
        wrong = WRONG + [0, 1, [], (), [[]], [1], [[1, 0]], [[1], [0]], [[1, 0], [0]], [[1, 0], [0, 1], [0, 0]],
                         [[True]], [[1, False], [0, 1]], [[1, 0], [0, True]], [[1, 0], None], ["10", "01"],
                         [[1, 0], [0, "1"]], [[[1]]], [[1, 0, 0], [0, 1, 0]],
                         [[1, 0, 0, 0], [0, 1, 0, 0], [0, 0, 1, 0], [0, 0, 0, 1]], [{1}], [idle(1)], idle(2), Form([[1]])]
        self.fails_for_all(InvalidRows, Table, wrong)

    def test_not_undone(self):
        for rows in ([[0]], [[2]], [[-2]], [[0, 0], [0, 0]], [[1, 1], [1, 1]], [[2, 0], [0, 1]], [[BIG, 0], [0, 1]],
                     [[1, 0, 0], [0, 1, 0], [0, 0, 2]], [[1, 2, 3], [4, 5, 6], [7, 8, 9]], [[1, 2], [3, 4]]):
            self.fails(NotUndone, Table, rows)

    def test_equal(self):
        self.assertTrue(SIX == Table(((0, -1), (1, 1))))
        self.assertFalse(SIX != Table(((0, -1), (1, 1))))
        for other in (SLANT, idle(1), idle(3), Form([[0, 1], [1, 1]]), SIX.rows, [[0, -1], [1, 1]], 1, None, "SIX"):
            self.assertIs(SIX == other, False)
            self.assertIs(SIX != other, True)
        self.assertFalse(idle(2) == Form([[1, 0], [0, 1]]))

    def test_properties_are_not_assigned(self):
        for name in ("rows", "size", "determinant", "trace"):
            self.assertRaises(AttributeError, setattr, SIX, name, 1)


class Leading(Case):
    def test_leads_by_products_of_rows(self):
        self.assertEqual(SIX.lead((2, 3)), (-3, 5))
        self.assertEqual(SIX.lead(row=[2, 3]), (-3, 5))
        self.assertIs(type(self.leaves(SIX.lead, [2, 3])), tuple)
        self.assertEqual(FAR.lead([BIG, BIG]), (BIG + BIG * BIG, BIG))
        for size in SIZES:
            for table, row in zip(some_tables(size, 20), some_rows(size, 20)):
                told = tuple(sum(table.rows[i][j] * row[j] for j in range(size)) for i in range(size))
                self.assertEqual(table.lead(row), told)

    def test_wrong_rows(self):
        self.fails_for_all(InvalidRow, SIX.lead, WRONG + [1, [], [1], [1, 2, 3], [1, True], (False, 0), [[1], [2]], SIX])
        self.fails_for_all(InvalidRow, idle(1).lead, [(1, 2), (True,), []])
        self.fails_for_all(InvalidRow, THREE.lead, [(1, 2), (1, 2, 3, 4), [1, 2, None]])

    def test_products(self):
        self.assertEqual(SIX * SIX, Table([[-1, -1], [1, 0]]))
        for size in SIZES:
            tables = some_tables(size, 20)
            for one, other, row in zip(tables, tables[1:], some_rows(size, 19)):
                self.is_table(one * other, grids_times(one.rows, other.rows))
                self.assertEqual((one * other).lead(row), one.lead(other.lead(row)))
                self.assertEqual((one * other).trace, (other * one).trace)
        self.assertNotEqual(SIX * SLANT, SLANT * SIX)
        self.assertEqual((FAR * FAR).rows, ((1, 2 * BIG), (0, 1)))

    def test_products_with_others(self):
        self.fails_for_all(InvalidTable, lambda value: SIX * value,
                           WRONG + [2, SIX.rows, [[1, 0], [0, 1]], Form([[1, 0], [0, 1]])])
        self.fails(UnlikeSizes, lambda: SIX * idle(3))
        self.fails(UnlikeSizes, lambda: idle(1) * SIX)

    def test_undone(self):
        self.assertEqual(SIX.undone().rows, ((1, 1), (-1, 0)))
        self.assertEqual(FAR.undone().rows, ((1, -BIG), (0, 1)))
        self.assertEqual(Table([[-1]]).undone(), Table([[-1]]))
        self.assertEqual({table.determinant for table in some_tables(3, 30)}, {1, -1})
        for size in SIZES:
            for table, row in zip(some_tables(size, 30), some_rows(size, 30)):
                self.assertIs(type(table.undone()), Table)
                self.assertEqual([table * table.undone(), table.undone() * table], [idle(size)] * 2)
                self.assertEqual(table.undone().lead(table.lead(row)), row)


class Powers(Case):
    def test_small_powers(self):
        for size in SIZES:
            for table in some_tables(size, 6):
                up = down = idle(size)
                for number in range(8):
                    self.assertEqual([table.power(number), table.power(-number)], [up, down])
                    up, down = up * table, table.undone() * down
        self.assertIs(type(SIX.power(number=0)), Table)
        self.assertTrue(SIX.power(-6) == idle(2))

    def test_sums(self):
        for one in (-5, 0, 3):
            for other in (-7, -1, 4):
                self.assertEqual(THREE.power(one + other), THREE.power(one) * THREE.power(other))

    def test_numbers_of_thirty_digits(self):
        great = 10 ** 30 - 1
        self.assertEqual(SLANT.power(great).rows, ((1, great), (0, 1)))
        self.assertEqual(SLANT.power(-great).rows, ((1, -great), (0, 1)))
        self.assertEqual(SIX.power(great), SIX.power(great % 6))
        self.assertEqual(SIX.power(-great), SIX.power(-great % 6))
        self.assertEqual(Table([[-1]]).power(great), Table([[-1]]))
        self.assertEqual(Table([[-1]]).power(-great - 1), idle(1))
        long = Table([[1, 1, 0], [0, 1, 1], [0, 0, 1]]).power(great)
        self.assertEqual(long.rows, ((1, great, great * (great - 1) // 2), (0, 1, great), (0, 0, 1)))

    def test_wrong_numbers(self):
        self.fails_for_all(InvalidNumber, SIX.power, WRONG + [[1], (1,), SIX])


class Rests(Case):
    def test_rests(self):
        self.assertEqual(SLANT.power(3).rests(3), ((1, 0), (0, 1)))
        for size in SIZES:
            for table in some_tables(size, 10):
                for modulus in (2, 3, 7, 1000):
                    told = table.rests(modulus=modulus)
                    self.assertEqual([type(told), {type(row) for row in told}], [tuple, {tuple}])
                    for row, line in zip(told, table.rows):
                        for rest, number in zip(row, line):
                            self.assertEqual((number - rest) // modulus * modulus + rest, number)
                            self.assertTrue(0 <= rest < modulus)
        self.assertEqual(Table([[1, -BIG], [0, -1]]).rests(1000), ((1, 993), (0, 999)))

    def test_alike(self):
        self.assertIs(rests_alike(SLANT.power(3), idle(2), 3), True)
        self.assertIs(rests_alike(SLANT.power(3), idle(2), 2), False)
        self.assertIs(rests_alike(table=idle(1), other=Table([[-1]]), modulus=2), True)
        self.assertIs(rests_alike(idle(1), Table([[-1]]), 3), False)
        self.assertIs(rests_alike(SLANT.power(1000), idle(2), 1000), True)
        low = Table([[1, 0], [1, 1]])
        self.assertIs(rests_alike(low, idle(2), 2), False)
        tables = some_tables(3, 12)
        for one, other in zip(tables, tables[1:]):
            further = other * tables[0].power(0) * Table([[1, 5, 0], [0, 1, 0], [0, 0, 1]])
            self.assertTrue(rests_alike(one * other, one * further, 5))

    def test_wrong_moduli(self):
        wrong = WRONG + [0, 1, -2, 1001, BIG, [2], SIX]
        self.fails_for_all(InvalidModulus, SIX.rests, wrong)
        self.fails_for_all(InvalidModulus, lambda value: rests_alike(SIX, SLANT, value), wrong)

    def test_which_error_is_first(self):
        self.fails(InvalidTable, rests_alike, None, 5, 1, value=None)
        self.fails(InvalidTable, rests_alike, SIX, 5, 1, value=5)
        self.fails(InvalidModulus, rests_alike, SIX, idle(3), 1, value=1)
        self.fails(UnlikeSizes, rests_alike, SIX, idle(3), 2)


class Functions(Case):
    def test_idle(self):
        self.assertEqual([idle(1).rows, idle(2).rows, idle(size=3).rows],
                         [((1,),), ((1, 0), (0, 1)), ((1, 0, 0), (0, 1, 0), (0, 0, 1))])
        self.assertIs(type(idle(2)), Table)
        self.fails_for_all(InvalidSize, idle, WRONG + [0, 4, -1, BIG, [2]])

    def test_is_idle(self):
        for size in SIZES:
            self.assertIs(is_idle(idle(size)), True)
            self.assertIs(is_idle(Table([[-x for x in row] for row in idle(size).rows])), False)
        self.assertIs(is_idle(table=SIX), False)
        self.assertIs(is_idle(SLANT), False)
        self.fails_for_all(InvalidTable, is_idle, WRONG + [1, ((1,),), Form([[1]])])

    def test_turned(self):
        self.assertEqual(turned(SIX, SLANT), Table([[1, -1], [1, 0]]))
        self.assertEqual(turned(table=SLANT, other=SIX), SIX * SLANT * SIX.undone())
        for size in SIZES:
            tables = some_tables(size, 12)
            for one, other in zip(tables, tables[1:]):
                told = turned(one, other)
                self.assertIs(type(told), Table)
                self.assertEqual(told * other, other * one)
                self.assertEqual([polynomial(told), told.trace, told.determinant],
                                 [polynomial(one), one.trace, one.determinant])

    def test_polynomials(self):
        self.assertEqual([polynomial(Table([[-1]])), polynomial(table=SIX), polynomial(SLANT), polynomial(THREE)],
                         [(1, 1), (1, -1, 1), (1, -2, 1), (1, -1, -1, 1)])
        self.assertEqual(polynomial(Table([[0, 1], [1, 5]])), (-1, -5, 1))
        for size in SIZES:
            for table in some_tables(size, 12):
                told = polynomial(table)
                self.assertEqual([type(told), len(told), told[-1]], [tuple, size + 1, 1])
                for t in (-3, 0, 1, 10):
                    rows = [[t * (i == j) - table.rows[i][j] for j in range(size)] for i in range(size)]
                    self.assertEqual(sum(number * t ** at for at, number in enumerate(told)), by_hand(rows))
                for i in range(size):
                    for j in range(size):
                        sums = [number * table.power(at).rows[i][j] for at, number in enumerate(told)]
                        self.assertEqual(sum(sums), 0)
        self.fails_for_all(InvalidTable, polynomial, WRONG + [3, SIX.rows, Form([[1]])])

    def test_beside(self):
        self.assertEqual(beside(Table([[-1]]), SIX).rows, ((-1, 0, 0), (0, 0, -1), (0, 1, 1)))
        self.assertEqual(beside(table=SIX, other=Table([[-1]])).rows, ((0, -1, 0), (1, 1, 0), (0, 0, -1)))
        self.is_table(beside(idle(1), Table([[-1]])), ((1, 0), (0, -1)))
        minus = Table([[-1]])
        self.assertEqual(beside(SIX * SLANT, minus * minus), beside(SIX, minus) * beside(SLANT, minus))

    def test_beside_of_too_many(self):
        for one, other in ((SIX, SIX), (idle(1), THREE), (THREE, idle(1)), (THREE, THREE)):
            self.fails(TooMany, beside, one, other, what="columns", limit=3)

    def test_wrong_tables(self):
        wrong = WRONG + [1, SIX.rows, [[1]], Form([[1]])]
        for call in (turned, beside, lambda one, other: rests_alike(one, other, 2)):
            self.fails_for_all(InvalidTable, lambda value: call(value, None), wrong)
            self.fails_for_all(InvalidTable, lambda value: call(idle(3), value), wrong)
        self.fails(UnlikeSizes, turned, SIX, idle(1))
        self.fails(UnlikeSizes, turned, idle(3), SIX)
