import random
from fractions import Fraction
from itertools import product

from common import BIG, WRONG, Case, by_hand, endless_lots, finite_lots, led_by_hand, lots_turned, rows_of_lot, some_rows
from common import some_tables, wrong_lots
from keptbowls.degrees import averaged, degree_counts, is_kept_poly, poly_led, solved_count
from keptbowls.errors import Endless, InvalidDegree, InvalidLot, InvalidMany, InvalidPoly, InvalidTable, TooMany
from keptbowls.forms import Form, sum_form
from keptbowls.kept import kept_forms, kept_rows
from keptbowls.lots import Lot
from keptbowls.means import mean_forms, mean_trace
from keptbowls.tables import Table, idle
from keptbowls.verdicts import kept_bowl

SIX, PAIR, WIDE = Lot([Table([[0, -1], [1, 1]])]), Lot([Table([[0, 1], [1, 0]])]), Lot([Table([[1, 1], [0, 1]])])
BOUNDS = {1: 6, 2: 5, 3: 3}


def spots(size, degree):
    return [spot for spot in product(range(degree + 1), repeat=size) if sum(spot) == degree]


def some_polys(size, many, seed=1):
    source = random.Random(f"poly {size} {many} {seed}")
    known = [spot for degree in range(7) for spot in spots(size, degree)]
    for _ in range(many):
        chosen = source.sample(known, source.randint(0, min(6, len(known))))
        yield {spot: source.choice([-7, -2, -1, 1, 2, 3, 10]) for spot in chosen}


def worth(poly, row):
    told = 0
    for spot, factor in poly.items():
        for number, often in zip(row, spot):
            factor *= number ** often
        told += factor
    return told


def of_form(form):
    """The worths of the form as a poly."""
    told = {}
    for i, row in enumerate(form.rows):
        for j, number in enumerate(row):
            spot = tuple((k == i) + (k == j) for k in range(form.size))
            told[spot] = told.get(spot, 0) + number
    return {spot: factor for spot, factor in told.items() if factor != 0}


def times(one, other):
    told = {}
    for spot, factor in one.items():
        for place, number in other.items():
            at = tuple(x + y for x, y in zip(spot, place))
            told[at] = told.get(at, 0) + factor * number
    return {spot: factor for spot, factor in told.items() if factor != 0}


def wrong_polys(size):
    """What is no poly of so many unknowns, of every kind."""
    one, nought = (1,) + (0,) * (size - 1), (0,) * size
    values = [value for value in WRONG if value != {}] + [0, 1, [], (), [one], (one, 1), idle(size), sum_form(size)]
    values += [{one: number} for number in (0, True, False, None, "1", (1,), [1], Form([[1]]))]
    values += [{one: 2, nought: 0}, {nought: 1, one: True}, {one: 1, 5: 2}, {one: 1, None: 2}]
    values += [{key: 1} for key in (1, None, "x", True, (), one + (0,), one[1:], (7,) + one[1:], (-1,) + one[1:], (True,) + one[1:],
                                    one[:-1] + (None,), one[:-1] + ("1",), frozenset(), Form, (one,), nought[1:] + (7,))]
    if size > 1:
        values += [{(6, 1) + nought[2:]: 1}, {nought[2:] + (3, 4): 1}, {(7, -1) + nought[2:]: 1}, {(False,) + one[:-1]: 1}]
    return values


class PolyLed(Case):
    def test_example(self):
        self.assertEqual(poly_led(table=Table([[0, -1], [1, 1]]), poly={(1, 1): 1}), {(0, 2): -1, (1, 1): -1})
        self.assertEqual(averaged(lot=SIX, poly={(2, 0): 1}), {(0, 2): 4, (1, 1): 4, (2, 0): 4})
        self.assertEqual([degree_counts(lot=SIX, many=6), solved_count(lot=SIX, degree=4)], [[1, 0, 1, 0, 1, 0, 3], 1])
        self.assertTrue(is_kept_poly(lot=SIX, value={(2, 0): 1, (1, 1): 1, (0, 2): 1}))

    def test_worths(self):
        for size in (1, 2, 3):
            for poly, table in zip(some_polys(size, 30), some_tables(size, 30, seed=101)):
                told = self.leaves(poly_led, table, poly)
                self.assertIs(type(told), dict)
                self.assertTrue(all(type(spot) is tuple and len(spot) == size and factor != 0 for spot, factor in told.items()))
                for row in some_rows(size, 8, seed=102):
                    self.assertEqual(worth(told, row), worth(poly, led_by_hand(table.rows, row)))

    def test_degrees_stay(self):
        for size in (1, 2, 3):
            for degree in range(7):
                for table in some_tables(size, 5, seed=103):
                    for spot in spots(size, degree)[::4]:
                        self.assertEqual({sum(one) for one in poly_led(table, {spot: 1})}, {degree})

    def test_products_and_sequence(self):
        for size in (1, 2, 3):
            for poly, one, other in zip(some_polys(size, 12, seed=2), some_tables(size, 12, seed=104), some_tables(size, 12, seed=105)):
                self.assertEqual(poly_led(one * other, poly), poly_led(other, poly_led(one, poly)))
                self.assertEqual(poly_led(one, dict(list(poly.items())[::-1])), poly_led(one, poly))
                self.assertEqual(poly_led(one.undone(), poly_led(one, poly)), poly)
                self.assertEqual(poly_led(idle(size), poly), poly)

    def test_new_and_nought(self):
        self.assertEqual(poly_led(idle(2), {}), {})
        self.assertEqual(poly_led(Table([[-1]]), {(6,): 2, (3,): BIG, (0,): -1}), {(6,): 2, (3,): -BIG, (0,): -1})
        poly = {(1, 1): 1}
        told = poly_led(idle(2), poly)
        told[(0, 0)] = 5
        self.assertEqual([poly, poly_led(idle(2), poly)], [{(1, 1): 1}] * 2)
        # What goes away is not told.
        self.assertEqual(poly_led(Table([[1, 1], [0, 1]]), {(2, 0): 1, (1, 1): -2, (0, 2): 1}), {(2, 0): 1})

    def test_great_numbers(self):
        table = Table([[1, BIG], [0, 1]])
        self.assertEqual(poly_led(table, {(6, 0): 1})[(0, 6)], BIG ** 6)
        self.assertEqual(poly_led(table.undone(), poly_led(table, {(6, 0): BIG})), {(6, 0): BIG})

    def test_wrong(self):
        values = WRONG + [0, 1, idle(2).rows, sum_form(2), PAIR]
        self.fails_for_all(InvalidTable, lambda table: poly_led(table, {}), values)
        self.fails(InvalidTable, poly_led, None, None, value=None)
        for size in (1, 2, 3):
            self.fails_for_all(InvalidPoly, lambda poly: poly_led(idle(size), poly), wrong_polys(size))


class Averaged(Case):
    def test_sums_over_members(self):
        for lot in finite_lots():
            for made in lots_turned(lot, 1, seed=106, greatest=1):
                grids = rows_of_lot(made)
                for poly in some_polys(made.size, 2, seed=3):
                    told = self.leaves(averaged, made, poly)
                    self.assertIs(is_kept_poly(made, told), True)
                    self.assertTrue(all(factor != 0 for factor in told.values()))
                    for row in some_rows(made.size, 3, seed=107, greatest=4):
                        self.assertEqual(worth(told, row), sum(worth(poly, led_by_hand(rows, row)) for rows in grids))
                    self.assertEqual(averaged(made, told), {spot: made.total * factor for spot, factor in told.items()})
        self.assertEqual([averaged(SIX, {}), averaged(SIX, {(1, 0): 3}), averaged(PAIR, {(0, 0): 5})], [{}, {}, {(0, 0): 10}])

    def test_sequence(self):
        poly = {(2, 0): 1, (0, 1): 3, (1, 1): -2}
        self.assertEqual(averaged(PAIR, dict(list(poly.items())[::-1])), averaged(PAIR, poly))

    def test_wrong(self):
        self.fails_for_all(InvalidLot, lambda lot: averaged(lot, {}), wrong_lots())
        for lot in finite_lots(2) + endless_lots()[:4]:
            self.fails_for_all(InvalidPoly, lambda poly: averaged(lot, poly), wrong_polys(lot.size))
        for lot in endless_lots():
            self.fails(Endless, averaged, lot, {})
        self.fails(InvalidLot, averaged, None, None, value=None)


class KeptPolys(Case):
    def test_by_members(self):
        for lot in finite_lots():
            for made in lots_turned(lot, 1, seed=108, greatest=1):
                members = made.members()
                for poly in list(some_polys(made.size, 3, seed=4)) + [{}, {(0,) * made.size: 7}]:
                    kept = all(poly_led(one, poly) == poly for one in members)
                    self.assertIs(self.leaves(is_kept_poly, made, poly), kept)
                self.assertIs(is_kept_poly(made, of_form(kept_bowl(made))), True)
                self.assertIs(is_kept_poly(made, {}), True)

    def test_sums_and_products(self):
        for lot in finite_lots(12):
            bowl = of_form(kept_bowl(lot))
            for form in kept_forms(lot.makers()):
                both = times(bowl, of_form(form))
                self.assertIs(is_kept_poly(lot, both), True)
                self.assertIs(is_kept_poly(lot, {**both, **bowl, (0,) * lot.size: -3}), True)
                self.assertIs(is_kept_poly(lot, times(both, bowl)), True)

    def test_none(self):
        self.assertEqual([is_kept_poly(PAIR, {(1, 0): 1}), is_kept_poly(PAIR, {(1, 0): 1, (0, 1): 1})], [False, True])
        # One maker keeps it, and the other one does not.
        turn, flip = Table([[0, -1], [1, 0]]), Table([[1, 0], [0, -1]])
        poly = {(3, 1): 1, (1, 3): -1}
        self.assertEqual([is_kept_poly(Lot(makers), poly) for makers in ([turn], [turn, flip], [flip, turn])], [True, False, False])
        for lot in finite_lots():
            for value in wrong_polys(lot.size):
                self.assertIs(is_kept_poly(lot, value), False)

    def test_wrong(self):
        self.fails_for_all(InvalidLot, lambda lot: is_kept_poly(lot, {}), wrong_lots())
        for lot in endless_lots():
            for value in ({}, None, {(1,) * lot.size: 1}, 5):
                self.fails(Endless, is_kept_poly, lot, value)


class Counts(Case):
    def test_both_ways(self):
        for lot in finite_lots():
            for made in lots_turned(lot, 1, seed=109, greatest=2):
                told = self.leaves(degree_counts, made, 8)
                self.assertEqual([type(told), len(told)], [list, 9])
                for degree in range(BOUNDS[made.size] + 1):
                    self.assertEqual(self.leaves(solved_count, made, degree), told[degree])
                self.assertEqual([degree_counts(made, many) for many in (0, 3)], [told[:1], told[:4]])
                self.assertEqual(told[:3], [1, mean_trace(made), mean_forms(made)])
                self.assertEqual(told[1:3], [len(kept_rows(made.makers())), len(kept_forms(made.makers()))])
                if made.has(Table([[-number for number in row] for row in idle(made.size).rows])):
                    self.assertEqual(told[1::2], [0] * 4)
        self.same_again(degree_counts, SIX, 5)

    def test_by_series(self):
        # The series of 1 / determinant of (1 - t P), at a small t with fractions, to the eighth power.
        for lot in finite_lots():
            told, small = degree_counts(lot, 8), Fraction(1, 10 ** 6)
            whole = Fraction(0)
            for rows in rows_of_lot(lot):
                whole += 1 / by_hand([[(i == j) - small * number for j, number in enumerate(row)] for i, row in enumerate(rows)])
            rest = whole / lot.total
            for number in told:
                self.assertEqual(round(rest), number)
                rest = (rest - number) / small

    def test_known(self):
        self.assertEqual(degree_counts(Lot([idle(1)]), 8), [1] * 9)
        self.assertEqual(degree_counts(Lot([Table([[-1]])]), 8), [1, 0] * 4 + [1])
        self.assertEqual(degree_counts(Lot([idle(2)]), 8), list(range(1, 10)))
        self.assertEqual(degree_counts(Lot([idle(3)]), 8), [1, 3, 6, 10, 15, 21, 28, 36, 45])
        self.assertEqual(degree_counts(PAIR, 8), [1, 1, 2, 2, 3, 3, 4, 4, 5])
        self.assertEqual(degree_counts(SIX, 0), [1])

    def test_turned_far(self):
        far = Table([[BIG, 1], [BIG * BIG - 1, BIG]])
        lot = Lot([far * maker * far.undone() for maker in PAIR.makers()])
        self.assertEqual(degree_counts(lot, 8), degree_counts(PAIR, 8))
        self.assertEqual([solved_count(lot, degree) for degree in range(6)], [1, 1, 2, 2, 3, 3])

    def test_wrong(self):
        for call, error in ((degree_counts, InvalidMany), (solved_count, InvalidDegree)):
            self.fails_for_all(InvalidLot, lambda lot: call(lot, 1), wrong_lots())
            for lot in (SIX, WIDE, Lot([idle(1)]), Lot([idle(3)])):
                self.fails_for_all(error, lambda number: call(lot, number), WRONG + [-1, -BIG, [1], (2,), "3"])
            for lot in endless_lots():
                for number in (0, 3, 8):
                    self.fails(Endless, call, lot, number)
            self.fails(InvalidLot, call, None, -1, value=None)
        for lot in (SIX, WIDE):
            self.fails_for_all(InvalidMany, lambda many: degree_counts(lot, many), [9, 10, BIG])

    def test_beyond_the_bounds(self):
        for lot in finite_lots(4):
            bound = BOUNDS[lot.size]
            for degree in (bound + 1, bound + 2, BIG):
                self.fails(TooMany, solved_count, lot, degree, what="degree", limit=bound)
        for lot in endless_lots():
            self.fails(Endless, solved_count, lot, 100)
