from itertools import product as all_rows

from common import BIG, WRONG, Case, some_grids, some_rows, some_tables, wrong_makers
from keptbowls.errors import InvalidBasis, InvalidForm, InvalidMakers, InvalidTable, NotKept, UnlikeSizes
from keptbowls.forms import Form, sum_form
from keptbowls.kept import (is_kept_basis, is_rows_basis, keeps, kept_forms, kept_parts, kept_rank, kept_rows)
from keptbowls.tables import Table, beside, idle, turned
from keptbowls.words import product

TURN, SLANT, FLIP = Table([[0, -1], [1, 1]]), Table([[1, 1], [0, 1]]), Table([[1, 0], [0, -1]])
BOWL = Form([[2, 1], [1, 2]])
FAR = Table([[1, BIG], [0, 1]])


def contrary(size):
    return Table([[-number for number in row] for row in idle(size).rows])


def added(basis, parts, size):
    whole = Form([[0] * size] * size)
    for form, part in zip(basis, parts):
        whole = whole + form.times(part)
    return whole


CYCLE = Table([[0, 0, 1], [1, 0, 0], [0, 1, 0]])
LOTS = [([TURN], 1), ([SLANT], 1), ([TURN, SLANT], 0), ([idle(1)], 1), ([Table([[-1]])], 1), ([idle(2)], 3), ([idle(3)], 6),
        ([contrary(2)], 3), ([contrary(3)], 6), ((idle(3), contrary(3), idle(3)), 6), ([FLIP], 2), ([TURN, TURN], 1),
        ([Table([[0, 1], [1, 0]])], 2), ([Table([[2, 1], [1, 1]])], 1), ([CYCLE], 2), ([beside(TURN, idle(1))], 2),
        ([beside(SLANT, Table([[-1]]))], 2), ([beside(FLIP, idle(1))], 4), ([FAR], 1),
        ([beside(idle(1), FLIP), beside(FLIP, idle(1)), beside(idle(2), Table([[-1]]))], 3),
        ([Table([[1, 1, 0], [0, 1, 1], [0, 0, 1]])], 2), ([TURN, FLIP], 0), ([CYCLE, contrary(3), idle(3), CYCLE], 2)]


class Keeps(Case):
    def test_examples(self):
        self.assertIs(keeps(TURN, BOWL), True)
        self.assertIs(keeps(table=SLANT, form=BOWL), False)
        self.assertIs(keeps(SLANT, Form([[0, 0], [0, BIG]])), True)
        self.assertIs(keeps(SLANT, Form([[1, 0], [0, 0]])), False)

    def test_facts(self):
        for size in (1, 2, 3):
            for table, rows in zip(some_tables(size, 30, greatest=1), some_grids(size, 30, greatest=1)):
                form = Form(rows)
                told = keeps(table, form)
                self.assertIs(told, form.led(table) == form)
                self.assertIs(keeps(table.undone(), form), told)
                self.assertIs(keeps(idle(size), form) and keeps(contrary(size), form), True)
                self.assertIs(keeps(table, form.times(0)), True)
                if told:
                    for row in some_rows(size, 5):
                        self.assertEqual(form.worth(table.lead(row)), form.worth(row))

    def test_errors_in_their_sequence(self):
        self.fails_for_all(InvalidTable, lambda table: keeps(table, None), WRONG + [1, BOWL, TURN.rows, [TURN]])
        self.fails_for_all(InvalidForm, lambda form: keeps(TURN, form), WRONG + [1, TURN, BOWL.rows, [BOWL]])
        self.fails(UnlikeSizes, keeps, TURN, sum_form(3))
        self.fails(UnlikeSizes, keeps, idle(3), BOWL)


class KeptForms(Case):
    def test_bases(self):
        for makers, rank in LOTS:
            with self.subTest(makers=makers):
                told = self.leaves(kept_forms, makers)
                self.assertIs(type(told), list)
                self.assertEqual([len(told), kept_rank(makers)], [rank, rank])
                for form in told:
                    self.assertEqual([type(form), form.size], [Form, makers[0].size])
                    self.assertTrue(all(keeps(maker, form) for maker in makers))
                self.assertIs(is_kept_basis(makers, told), True)
                self.assertIs(is_kept_basis(list(makers), tuple(told)), True)
                self.same_again(kept_forms, makers)

    def test_ranks_are_told_by_means(self):
        # The count of the forms that a finite lot keeps is the mean over its members of (t t + s) / 2.
        lots = [[TURN.power(at) for at in range(6)], [idle(2), FLIP], [CYCLE.power(at) for at in range(3)]]
        for members in lots:
            sums = [member.trace ** 2 + (member * member).trace for member in members]
            self.assertEqual(kept_rank(members[1:2]), sum(sums) // (2 * len(members)))

    def test_all_small_kept_forms_have_parts(self):
        for makers, _ in LOTS:
            size = makers[0].size
            places = [(i, j) for i in range(size) for j in range(i, size)]
            basis = kept_forms(makers)
            for numbers in all_rows((-1, 0, 2), repeat=len(places)):
                told = dict(zip(places, numbers))
                form = Form([[told[min(i, j), max(i, j)] for j in range(size)] for i in range(size)])
                if all(keeps(maker, form) for maker in makers):
                    parts = kept_parts(makers, basis, form)
                    self.assertIs(type(parts), list)
                    self.assertEqual(added(basis, parts, size), form)
                else:
                    self.fails(NotKept, kept_parts, makers, basis, form)

    def test_members_keep_what_makers_keep(self):
        makers = [beside(TURN, idle(1)), beside(Table([[0, 1], [1, 0]]), Table([[-1]]))]
        for form in kept_forms(makers):
            for word in ([1, 2], [1, -2, 1], [-1, -1, 2, 2, 1]):
                self.assertTrue(keeps(product(makers, word), form))

    def test_turned_lots(self):
        for table in some_tables(2, 10):
            told = kept_forms([turned(TURN, table)])
            self.assertIs(is_kept_basis([turned(TURN, table)], [BOWL.led(table.undone())]), True)
            self.assertEqual(len(told), 1)


class IsKeptBasis(Case):
    def test_one_form(self):
        for value in ([BOWL], (BOWL,), [BOWL.times(-1)]):
            self.assertIs(self.leaves(is_kept_basis, [TURN], value), True)
        self.assertIs(is_kept_basis(makers=[TURN, TURN], value=[BOWL]), True)
        for value in WRONG + [1, BOWL, [], (), [BOWL.times(2)], [BOWL, BOWL], [BOWL.times(0)], [sum_form(2)],
                              [BOWL.rows], [BOWL, sum_form(2)], [None], [TURN], [sum_form(3)], [sum_form(1)], {0: BOWL},
                              [[BOWL]], [BOWL, BOWL.times(0)]]:
            self.assertIs(is_kept_basis([TURN], value), False)

    def test_more_forms(self):
        a, b, c = Form([[1, 0], [0, 0]]), Form([[0, 1], [1, 0]]), Form([[0, 0], [0, 1]])
        for value in ([a, b, c], [c, a, b], [a + b, b, c], [a, b.times(-1), c + a.times(-7)], [a + b, b, c + b]):
            self.assertIs(is_kept_basis([idle(2)], value), True)
        for value in ([a, b], [a, b, b], [a, b, c, c], [a, b.times(2), c], [a + c, b, a + c.times(-1)], [a, b, c, a + b],
                      [a, b, sum_form(3)]):
            self.assertIs(is_kept_basis([idle(2)], value), False)
        self.assertIs(is_kept_basis([FLIP], [a, c]), True)
        self.assertIs(is_kept_basis([FLIP], [a, b]), False)
        self.assertIs(is_kept_basis([FLIP], [a, c, b]), False)

    def test_no_forms(self):
        self.assertIs(is_kept_basis([TURN, SLANT], []), True)
        self.assertIs(is_kept_basis([TURN, SLANT], ()), True)
        for value in WRONG + [[BOWL.times(0)], [BOWL], [[]]]:
            self.assertIs(is_kept_basis([TURN, SLANT], value), False)


class KeptParts(Case):
    def test_examples(self):
        self.assertEqual(kept_parts([TURN], [BOWL.times(-1)], BOWL.times(3)), [-3])
        self.assertEqual(kept_parts(makers=[TURN], basis=(BOWL,), form=BOWL.times(-BIG)), [-BIG])
        self.assertEqual(kept_parts([TURN], [BOWL], BOWL.times(0)), [0])
        self.assertEqual(kept_parts([TURN, SLANT], [], BOWL.times(0)), [])
        self.assertEqual(kept_parts([SLANT], kept_forms([SLANT]), Form([[0, 0], [0, 0]])), [0])

    def test_by_other_bases(self):
        a, b, c = Form([[1, 0], [0, 0]]), Form([[0, 1], [1, 0]]), Form([[0, 0], [0, 1]])
        form = Form([[5, -3], [-3, 7]])
        for basis, parts in (([a, b, c], [5, -3, 7]), ([c, a, b], [7, 5, -3]), ([a + b, b, c], [5, -8, 7]),
                             ([a, b.times(-1), c + a.times(-7)], [54, 3, 7])):
            self.assertEqual(self.leaves(kept_parts, [idle(2)], basis, form), parts)
            self.same_again(kept_parts, [idle(2)], basis, form)
        for rows in some_grids(3, 15, greatest=BIG):
            basis = kept_forms([idle(3)])
            basis[0] = basis[0] + basis[3].times(4)
            self.assertEqual(added(basis, kept_parts([idle(3)], basis, Form(rows)), 3), Form(rows))

    def test_errors_in_their_sequence(self):
        for value in WRONG + [1, BOWL, [], [BOWL.times(2)], [BOWL, BOWL], [sum_form(2)], [None], [sum_form(3)]]:
            self.fails(InvalidBasis, kept_parts, [TURN], value, None, value=value)
        self.fails_for_all(InvalidForm, lambda form: kept_parts([TURN], [BOWL], form), WRONG + [1, TURN, BOWL.rows, [BOWL]])
        self.fails(UnlikeSizes, kept_parts, [TURN], [BOWL], sum_form(3))
        self.fails(UnlikeSizes, kept_parts, [idle(3)], kept_forms([idle(3)]), BOWL)
        self.fails(NotKept, kept_parts, [TURN], [BOWL], sum_form(2))
        self.fails(NotKept, kept_parts, [idle(2), TURN], [BOWL], sum_form(2))
        self.fails(NotKept, kept_parts, [TURN, SLANT], [], BOWL)


class KeptRows(Case):
    def test_bases(self):
        ranks = {1: [0, 1], 2: [0, 1, 2], 3: [0, 1, 2, 3]}
        for makers, _ in LOTS:
            with self.subTest(makers=makers):
                told = self.leaves(kept_rows, makers)
                self.assertEqual([type(told), {type(row) for row in told} - {tuple}], [list, set()])
                self.assertIn(len(told), ranks[makers[0].size])
                self.assertTrue(all(maker.lead(row) == row for maker in makers for row in told))
                self.assertIs(is_rows_basis(makers, told), True)
                self.assertIs(is_rows_basis(makers, tuple(list(row) for row in told)), True)
                self.same_again(kept_rows, makers)

    def test_examples(self):
        self.assertEqual([kept_rows([TURN]), kept_rows(makers=[contrary(3)]), kept_rows([Table([[-1]])])], [[], [], []])
        self.assertEqual([len(kept_rows([idle(size)])) for size in (1, 2, 3)], [1, 2, 3])
        self.assertEqual([len(kept_rows([CYCLE])), len(kept_rows([beside(FLIP, idle(1))])), len(kept_rows([SLANT, FLIP]))],
                         [1, 2, 1])
        self.assertEqual(len(kept_rows([SLANT, Table([[1, 0], [1, 1]])])), 0)
        self.assertIn(kept_rows([SLANT]), ([(1, 0)], [(-1, 0)]))
        self.assertIn(kept_rows([Table([[3, 2], [-2, -1]])]), ([(1, -1)], [(-1, 1)]))

    def test_is_rows_basis(self):
        for value in ([(1, 0)], [[-1, 0]], ((1, 0),)):
            self.assertIs(self.leaves(is_rows_basis, [SLANT], value), True)
        self.assertIs(is_rows_basis(makers=[SLANT, idle(2)], value=[(1, 0)]), True)
        for value in WRONG + [1, [], (), [(2, 0)], [(0, 1)], [(1, 0), (1, 0)], [(1, 0), (0, 0)], [(0, 0)], [(1,)], [1, 0],
                              [(1, 0, 0)], [(True, 0)], [None], (1, 0), [[(1, 0)]], SLANT]:
            self.assertIs(is_rows_basis([SLANT], value), False)
        for value in ([], ()):
            self.assertIs(is_rows_basis([TURN], value), True)
            self.assertIs(is_rows_basis([idle(1)], value), False)
        self.assertIs(is_rows_basis([TURN], [(0, 0)]), False)
        self.assertIs(is_rows_basis([idle(2)], [(2, 1), (1, 1)]), True)
        self.assertIs(is_rows_basis([idle(2)], [(2, 1), (1, 2)]), False)
        self.assertIs(is_rows_basis([idle(3)], [(1, 0, 0), (5, 1, 0), (BIG, 0, -1)]), True)


class WrongMakers(Case):
    def test_all_functions(self):
        calls = [kept_forms, kept_rank, kept_rows, lambda makers: is_kept_basis(makers, None),
                 lambda makers: is_rows_basis(makers, None), lambda makers: kept_parts(makers, None, None)]
        for makers, position in wrong_makers():
            for call in calls:
                self.fails(InvalidMakers, call, makers, position=position)
