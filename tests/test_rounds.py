from itertools import product

from common import BIG, WRONG, Case, endless_lots, finite_lots, grids_times, led_by_hand, lots_turned, rows_of_lot
from common import some_rows, wrong_lots, wrong_rows
from keptbowls.errors import Endless, InvalidLot, InvalidMany, InvalidModulus, InvalidRow, TooMany
from keptbowls.forms import Form
from keptbowls.kept import kept_forms
from keptbowls.lots import Lot
from keptbowls.means import mean_rounds
from keptbowls.rounds import rest_rounds, round_of, rounds_within, stayers
from keptbowls.shorts import short_rows
from keptbowls.tables import Table, idle
from keptbowls.verdicts import kept_bowl

SIX, PAIR, WIDE = Lot([Table([[0, -1], [1, 1]])]), Lot([Table([[0, 1], [1, 0]])]), Lot([Table([[1, 1], [0, 1]])])
ONE, SIGNS = Lot([idle(1)]), Lot([Table([[-1]])])
WRONG_RESTS = WRONG + [0, 1, -2, 10, 11, 1000, BIG, [2], (3,), "3"]


def rest_rounds_by_hand(lot, modulus):
    grids = rows_of_lot(lot)
    left, many = set(product(range(modulus), repeat=lot.size)), 0
    while left:
        row = min(left)
        left -= {tuple(number % modulus for number in led_by_hand(rows, row)) for rows in grids}
        many += 1
    return many


class Rounds(Case):
    def test_example(self):
        told = round_of(lot=SIX, row=(1, 0))
        self.assertEqual(told, [(-1, 0), (-1, 1), (0, -1), (0, 1), (1, -1), (1, 0)])
        self.assertEqual(stayers(lot=PAIR, row=[2, 2]), [Table([[0, 1], [1, 0]]), Table([[1, 0], [0, 1]])])
        self.assertEqual([rest_rounds(lot=SIX, modulus=3), len(rounds_within(lot=SIX, many=6))], [3, 3])

    def test_by_members(self):
        for lot in finite_lots():
            for made in lots_turned(lot, 1, seed=81):
                grids = rows_of_lot(made)
                for row in some_rows(made.size, 6, seed=82, greatest=2) + [(0,) * made.size]:
                    told = self.leaves(round_of, made, row)
                    self.assertEqual(told, sorted({led_by_hand(rows, row) for rows in grids}))
                    stay = self.leaves(stayers, made, list(row))
                    self.assertEqual([one.rows for one in stay], [rows for rows in grids if led_by_hand(rows, row) == row])
                    self.assertEqual({type(one) for one in stay}, {Table})
                    self.assertEqual(len(told) * len(stay), made.total)
                    self.assertTrue(all(round_of(made, other) == told for other in told))
                    for form in kept_forms(made.makers()):
                        self.assertEqual(len({form.worth(one) for one in told}), 1)
        self.same_again(round_of, SIX, (1, 0))
        self.same_again(stayers, PAIR, (1, 1))

    def test_nought_and_rows_that_stay(self):
        for lot in finite_lots():
            nought = (0,) * lot.size
            self.assertEqual([round_of(lot, nought), stayers(lot, nought)], [[nought], lot.members()])
        self.assertEqual([round_of(PAIR, [5, 5]), round_of(PAIR, [5, 4])], [[(5, 5)], [(4, 5), (5, 4)]])
        self.assertEqual([round_of(SIGNS, (BIG,)), round_of(ONE, [7])], [[(-BIG,), (BIG,)], [(7,)]])
        self.assertEqual(stayers(SIGNS, (3,)), [idle(1)])

    def test_wrong(self):
        for call in (round_of, stayers):
            self.fails_for_all(InvalidLot, lambda lot: call(lot, (1, 0)), wrong_lots())
            self.fails(InvalidLot, call, None, None, value=None)
            for lot in finite_lots(4) + endless_lots():
                self.fails_for_all(InvalidRow, lambda row: call(lot, row), wrong_rows(lot.size))
            for lot in endless_lots():
                self.fails(Endless, call, lot, (0,) * lot.size)


class RoundsWithin(Case):
    def test_by_rows(self):
        for lot in finite_lots():
            for made in lots_turned(lot, 1, seed=83, greatest=1):
                for many in (0, 1, 2, 5, 12):
                    rows = short_rows(kept_bowl(made), many)
                    told = self.leaves(rounds_within, made, many)
                    self.assertEqual(told, sorted(told))
                    self.assertEqual(sorted(row for one in told for row in one), rows)
                    self.assertTrue(all(round_of(made, row) == one for one in told for row in one))
        self.same_again(rounds_within, SIX, 6)
        told = rounds_within(SIX, 6)
        told[0].append("spoilt")
        self.assertNotEqual(rounds_within(SIX, 6), told)

    def test_edges(self):
        self.assertEqual(rounds_within(SIX, 0), [[(0, 0)]])
        self.assertEqual(rounds_within(SIX, 2), [[(-1, 0), (-1, 1), (0, -1), (0, 1), (1, -1), (1, 0)], [(0, 0)]])
        self.assertEqual(rounds_within(ONE, 4), [[(number,)] for number in range(-2, 3)])
        self.assertEqual(rounds_within(SIGNS, 4), [[(-2,), (2,)], [(-1,), (1,)], [(0,)]])
        # Rows and contraries with nought: there is always an odd number of them.
        self.assertEqual(len(rounds_within(SIGNS, 199 ** 2)), 200)
        self.assertEqual(len(rounds_within(ONE, 200 ** 2 - 1)), 399)
        for lot in (ONE, SIGNS, SIX, PAIR, Lot([idle(3)])):
            self.fails(TooMany, rounds_within, lot, 10 ** 6, what="rows", limit=400)
        self.fails(TooMany, rounds_within, ONE, 200 ** 2, what="rows", limit=400)
        for lot in (SIX, PAIR, Lot([idle(3)])):
            bowl = kept_bowl(lot)
            many = next(many for many in range(10 ** 6) if self.has_more(bowl, many + 1))
            self.assertTrue(len(short_rows(bowl, many)) > 300)
            self.assertEqual(sum(len(one) for one in rounds_within(lot, many)), len(short_rows(bowl, many)))
            self.fails(TooMany, rounds_within, lot, many + 1, what="rows", limit=400)

    def has_more(self, bowl, many):
        try:
            return len(short_rows(bowl, many)) > 400
        except TooMany:
            return True

    def test_wrong(self):
        self.fails_for_all(InvalidLot, lambda lot: rounds_within(lot, 1), wrong_lots())
        for lot in (SIX, ONE, WIDE, Lot([idle(3)])):
            self.fails_for_all(InvalidMany, lambda many: rounds_within(lot, many), WRONG + [-1, 10 ** 6 + 1, BIG, [1], (2,)])
        for lot in endless_lots():
            for many in (0, 3, 10 ** 6):
                self.fails(Endless, rounds_within, lot, many)
        self.fails(InvalidLot, rounds_within, None, -1, value=None)


class RestRounds(Case):
    def test_by_members(self):
        for lot in finite_lots():
            for made in lots_turned(lot, 1, seed=84):
                for modulus in (2, 3, 4, 5) if made.size == 3 else range(2, 10):
                    told = self.leaves(rest_rounds, made, modulus)
                    self.assertEqual(told, rest_rounds_by_hand(made, modulus))
                    self.assertEqual(self.leaves(mean_rounds, made, modulus), told)

    def test_greatest_modulus(self):
        for lot in finite_lots()[-4:]:
            told = rest_rounds(lot, 9)
            self.assertEqual(told, rest_rounds_by_hand(lot, 9))
            self.assertEqual(mean_rounds(lot, 9), told)
        for size in (1, 2, 3):
            self.assertEqual([rest_rounds(Lot([idle(size)]), 9), mean_rounds(lot=Lot([idle(size)]), modulus=2)], [9 ** size, 2 ** size])

    def test_turned_far(self):
        far = Table([[BIG, 1], [BIG * BIG - 1, BIG]])
        for modulus in (2, 3, 9):
            made = Lot([far * maker * far.undone() for maker in SIX.makers()])
            self.assertEqual([rest_rounds(made, modulus), mean_rounds(made, modulus)], [rest_rounds(SIX, modulus)] * 2)

    def test_wrong(self):
        for call in (rest_rounds, mean_rounds):
            self.fails_for_all(InvalidLot, lambda lot: call(lot, 2), wrong_lots())
            for lot in (SIX, ONE, WIDE):
                self.fails_for_all(InvalidModulus, lambda modulus: call(lot, modulus), WRONG_RESTS)
            for lot in endless_lots():
                for modulus in (2, 9):
                    self.fails(Endless, call, lot, modulus)
            self.fails(InvalidLot, call, Form([[1]]), None, value=Form([[1]]))


class Products(Case):
    def test_stayers_make_lots(self):
        for lot in finite_lots():
            for row in some_rows(lot.size, 3, seed=85, greatest=1):
                stay = [one.rows for one in stayers(lot, row)]
                self.assertTrue(all(grids_times(one, other) in stay for one in stay for other in stay))
