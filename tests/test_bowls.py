from itertools import product

from common import BIG, NO_BOWLS, WRONG, Case, by_hand, some_grids, some_tables
from keptbowls.bowls import bowl_bound, is_bowl, is_pit, pit
from keptbowls.errors import InvalidBowl, InvalidForm, InvalidMany, InvalidPlace
from keptbowls.forms import Form, sum_form
from keptbowls.tables import idle

SIX = Form([[2, 1], [1, 2]])
SKEW = Form([[5, 7], [7, 10]])
BOWLS = [[[1]], [[BIG]], [[2, 1], [1, 2]], [[5, 7], [7, 10]], [[1, 0], [0, 1]], [[2, 1, 0], [1, 2, 1], [0, 1, 2]],
         [[1, 0, 0], [0, 50, 7], [0, 7, 1]], [[BIG, 1], [1, BIG]]]


class Bowls(Case):
    def test_is_bowl(self):
        for rows in BOWLS:
            self.assertIs(is_bowl(Form(rows)), True)
        for rows in NO_BOWLS:
            self.assertIs(is_bowl(form=Form(rows)), False)

    def test_by_rows(self):
        for size in (1, 2, 3):
            rows = [row for row in product(range(-3, 4), repeat=size) if any(row)]
            for grid in some_grids(size, 60, greatest=3):
                form = Form(grid)
                if is_bowl(form):
                    self.assertTrue(all(form.worth(row) > 0 for row in rows))
                    self.assertIsNone(pit(form))
                else:
                    self.assertTrue(form.worth(pit(form)) <= 0)
            for table, grid in zip(some_tables(size, 20), some_grids(size, 20, greatest=3)):
                self.assertEqual(is_bowl(Form(grid).led(table)), is_bowl(Form(grid)))

    def test_wrong_forms(self):
        for call in (is_bowl, pit, lambda form: is_pit(form, None)):
            self.fails_for_all(InvalidForm, call, WRONG + [1, SIX.rows, idle(2), [SIX]])


class Pits(Case):
    def test_pits(self):
        for rows in NO_BOWLS:
            with self.subTest(rows=rows):
                told = pit(Form(rows))
                self.assertEqual([type(told), len(told)], [tuple, len(rows)])
                self.assertTrue(any(told))
                self.assertTrue(Form(rows).worth(told) <= 0)
                self.assertIs(is_pit(Form(rows), told), True)
                self.assertEqual(pit(form=Form(rows)), told)
        for rows in BOWLS:
            self.assertIsNone(pit(Form(rows)))

    def test_is_pit(self):
        flat = Form([[1, 2], [2, 1]])
        for value in ((1, -1), [1, -1], (-1, 1), (2, -1), (-BIG, BIG), [3, -1]):
            self.assertIs(self.leaves(is_pit, flat, value), True)
        for value in WRONG + [1, (0, 0), [0, 0], (1, 0), (1, 1), (1,), (1, -1, 0), (), [], (4, -1), (True, -1), (1, None),
                              [[1], [-1]], flat, [(1, -1)], "1-"]:
            self.assertIs(is_pit(flat, value), False)
        self.assertIs(is_pit(form=flat, value=(1, -1)), True)
        self.assertIs(is_pit(Form([[1, 0], [0, 0]]), (0, 5)), True)
        self.assertIs(is_pit(Form([[1, 0], [0, 0]]), (False, 5)), False)
        self.assertIs(is_pit(Form([[0]]), (1,)), True)
        self.assertIs(is_pit(Form([[0]]), (0,)), False)
        for rows in BOWLS:
            self.assertIs(is_pit(Form(rows), (1, -1, 0)[:len(rows)]), False)


class HowFar(Case):
    def test_by_its_words(self):
        for form in [SIX, SKEW, Form([[7]]), sum_form(3), Form([[1, 0, 0], [0, 50, 7], [0, 7, 1]]), Form([[BIG, 1], [1, BIG]]),
                     Form([[4, 1, 0], [1, 3, -1], [0, -1, 9]])]:
            for place in range(form.size):
                left = [row[:place] + row[place + 1:] for at, row in enumerate(form.rows) if at != place]
                cofactor = by_hand(left) if left else 1
                for many in (0, 1, 2, 6, 7, 100, 999, 10 ** 6):
                    told = bowl_bound(form, place, many)
                    self.assertIs(type(told), int)
                    self.assertTrue(told >= 0)
                    self.assertTrue(told ** 2 * form.determinant <= many * cofactor)
                    self.assertTrue((told + 1) ** 2 * form.determinant > many * cofactor)

    def test_rows_come_no_further(self):
        for form, many in ((SIX, 6), (SKEW, 5), (Form([[4, 1, 0], [1, 3, -1], [0, -1, 9]]), 20)):
            for row in product(range(-20, 21), repeat=form.size) if form.size == 2 else product(range(-5, 6), repeat=3):
                if form.worth(row) <= many:
                    for place in range(form.size):
                        self.assertTrue(abs(row[place]) <= bowl_bound(form, place, many))

    def test_examples(self):
        self.assertEqual([bowl_bound(SIX, 0, 6), bowl_bound(bowl=SIX, place=1, many=5), bowl_bound(SIX, 0, 0)], [2, 1, 0])
        self.assertEqual([bowl_bound(Form([[1]]), 0, 10 ** 6), bowl_bound(Form([[2]]), 0, 8), bowl_bound(Form([[2]]), 0, 7)],
                         [1000, 2, 1])
        self.assertEqual([bowl_bound(SKEW, 0, 1), bowl_bound(SKEW, 1, 1)], [3, 2])

    def test_errors_in_their_sequence(self):
        wrong = WRONG + [1, SIX.rows, idle(2)] + [Form(rows) for rows in NO_BOWLS]
        self.fails_for_all(InvalidBowl, lambda bowl: bowl_bound(bowl, None, None), wrong)
        self.fails_for_all(InvalidPlace, lambda place: bowl_bound(SIX, place, None), WRONG + [-1, 2, 3, BIG, [0]])
        self.fails_for_all(InvalidMany, lambda many: bowl_bound(SIX, 1, many), WRONG + [-1, 10 ** 6 + 1, BIG, [1]])
        self.fails(InvalidPlace, bowl_bound, Form([[1]]), 1, 1, value=1)
        self.fails(InvalidPlace, bowl_bound, sum_form(3), 3, 1, value=3)
        self.assertEqual(bowl_bound(sum_form(3), 2, 9), 3)
