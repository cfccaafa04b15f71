from fractions import Fraction

from common import BIG, Case, endless_lots, finite_lots, grids_times, led_by_hand, lots_turned, rows_of_lot, some_rows
from common import wrong_lots, wrong_rows
from keptbowls.errors import Endless, InvalidLot, InvalidRow
from keptbowls.kept import kept_forms, kept_rows
from keptbowls.lots import Lot
from keptbowls.means import kept_part, mean_forms, mean_rounds, mean_trace, sum_table
from keptbowls.tables import Table, idle

SIX, PAIR = Lot([Table([[0, -1], [1, 1]])]), Lot([Table([[0, 1], [1, 0]])])


def trace(rows):
    return sum(rows[at][at] for at in range(len(rows)))


class Sums(Case):
    def test_example(self):
        self.assertEqual([sum_table(lot=PAIR), kept_part(lot=PAIR, row=(3, -1)), kept_part(PAIR, [3, -1])], [((1, 1), (1, 1)), (2, 2), (2, 2)])
        self.assertEqual([mean_trace(lot=PAIR), mean_forms(lot=PAIR), mean_trace(SIX), mean_forms(SIX)], [1, 2, 0, 1])
        self.assertEqual(mean_rounds(lot=SIX, modulus=3), 3)

    def test_over_members(self):
        for lot in finite_lots():
            for made in lots_turned(lot, 2, seed=91):
                grids = rows_of_lot(made)
                places = range(made.size)
                whole = tuple(tuple(sum(rows[i][j] for rows in grids) for j in places) for i in places)
                told = self.leaves(sum_table, made)
                self.assertEqual(told, whole)
                self.assertEqual({type(told), type(told[0])}, {tuple})
                for row in some_rows(made.size, 4, seed=92):
                    part = self.leaves(kept_part, made, list(row))
                    self.assertEqual(part, led_by_hand(whole, row))
                    self.assertIs(type(part), tuple)
                    self.assertTrue(all(led_by_hand(rows, part) == part for rows in grids))
                    self.assertEqual(kept_part(made, part), tuple(made.total * number for number in part))
                nought = all(number == 0 for row in whole for number in row)
                self.assertIs(nought, kept_rows(made.makers()) == [])
                for row in kept_rows(made.makers()):
                    self.assertEqual(kept_part(made, row), tuple(made.total * number for number in row))

    def test_lots_that_keep_nought_alone(self):
        for makers in ([[[-1]]], [[[-1, 0], [0, -1]]], [[[0, -1], [1, 1]]], [[[-1, 0, 0], [0, -1, 0], [0, 0, -1]]]):
            lot = Lot([Table(rows) for rows in makers])
            nought = (0,) * lot.size
            self.assertEqual(sum_table(lot), (nought,) * lot.size)
            self.assertEqual(kept_part(lot, (BIG,) * lot.size), nought)
            self.assertEqual(mean_trace(lot), 0)

    def test_idle_lots(self):
        for size, forms in ((1, 1), (2, 3), (3, 6)):
            lot = Lot([idle(size)])
            self.assertEqual([sum_table(lot), mean_trace(lot), mean_forms(lot)], [idle(size).rows, size, forms])
            self.assertEqual(kept_part(lot, (BIG,) * size), (BIG,) * size)


class Means(Case):
    def test_as_many_as_bases_have(self):
        for lot in finite_lots():
            for made in lots_turned(lot, 2, seed=93):
                self.assertEqual(self.leaves(mean_trace, made), len(kept_rows(made.makers())))
                self.assertEqual(self.leaves(mean_forms, made), len(kept_forms(made.makers())))
                self.assertEqual({type(mean_trace(made)), type(mean_forms(made)), type(mean_rounds(made, 2))}, {int})

    def test_by_fractions(self):
        for lot in finite_lots():
            grids = rows_of_lot(lot)
            self.assertEqual(mean_trace(lot), Fraction(sum(trace(rows) for rows in grids), len(grids)))
            both = sum(trace(rows) ** 2 + trace(grids_times(rows, rows)) for rows in grids)
            self.assertEqual(mean_forms(lot), Fraction(both, 2 * len(grids)))


class Wrong(Case):
    def test_lots(self):
        for call in (sum_table, mean_trace, mean_forms):
            self.fails_for_all(InvalidLot, call, wrong_lots())
            for lot in endless_lots():
                self.fails(Endless, call, lot)

    def test_rows(self):
        self.fails_for_all(InvalidLot, lambda lot: kept_part(lot, (1, 0)), wrong_lots())
        for lot in finite_lots(3) + endless_lots():
            self.fails_for_all(InvalidRow, lambda row: kept_part(lot, row), wrong_rows(lot.size))
        for lot in endless_lots():
            self.fails(Endless, kept_part, lot, [1] * lot.size)
        self.fails(InvalidLot, kept_part, None, None, value=None)
