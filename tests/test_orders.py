from common import BIG, WRONG, Case, endless_lots, finite_lots, grids_times, some_tables
from keptbowls.errors import InvalidNumber, InvalidTable
from keptbowls.forms import Form
from keptbowls.orders import home, order, rest_order
from keptbowls.tables import Table, idle

TURN, SLANT = Table([[0, -1], [1, 1]]), Table([[1, 1], [0, 1]])
KNOWN = [([[1]], 1), ([[-1]], 2), ([[1, 0], [0, 1]], 1), ([[-1, 0], [0, -1]], 2), ([[0, 1], [1, 0]], 2),
         ([[1, 5], [0, -1]], 2), ([[-1, -1], [1, 0]], 3), ([[0, -1], [1, 0]], 4), ([[0, -1], [1, 1]], 6),
         ([[1, 1], [0, 1]], None), ([[-1, 1], [0, -1]], None), ([[1, 3], [0, 1]], None), ([[1, 0], [BIG, 1]], None),
         ([[2, 1], [1, 1]], None), ([[0, 1], [1, 1]], None), ([[1, 0, 0], [0, 1, 0], [0, 0, 1]], 1),
         ([[-1, 0, 0], [0, -1, 0], [0, 0, -1]], 2), ([[0, 0, 1], [1, 0, 0], [0, 1, 0]], 3),
         ([[0, -1, 0], [1, 0, 0], [0, 0, 1]], 4), ([[0, -1, 0], [1, 0, 0], [0, 0, -1]], 4),
         ([[0, 0, -1], [-1, 0, 0], [0, -1, 0]], 6), ([[0, -1, 0], [1, 1, 0], [0, 0, 1]], 6),
         ([[0, -1, 5], [1, 0, 7], [0, 0, 1]], 4), ([[-1, 0, 0], [0, 0, -1], [0, 1, -1]], 6),
         ([[0, 0, 1], [1, 0, 0], [0, 1, 1]], None), ([[1, 0, 3], [0, 1, 0], [0, 0, 1]], None),
         ([[0, -1, 0], [1, 0, 1], [0, 0, 1]], 4), ([[1, 1, 0], [0, 1, 0], [0, 0, -1]], None)]


def order_by_hand(table):
    reached = table.rows
    for often in range(1, 13):
        if reached == idle(table.size).rows:
            return often
        reached = grids_times(reached, table.rows)
    return None


def rest_order_by_hand(table):
    wanted, reached, often = idle(table.size).rows, table.rows, 1
    while tuple(tuple(number % 3 for number in row) for row in reached) != wanted:
        reached, often = grids_times(reached, table.rows), often + 1
    return often


class Orders(Case):
    def test_known(self):
        for rows, often in KNOWN:
            self.assertEqual(self.leaves(order, Table(rows)), often)
        self.assertEqual(order(table=TURN), 6)

    def test_by_powers(self):
        for size in (1, 2, 3):
            for table in some_tables(size, 60, seed=11, greatest=1):
                often = order(table)
                self.assertEqual(often, order_by_hand(table))
                self.assertIn(often, (1, 2, 3, 4, 6, None))
                if often is not None:
                    self.assertEqual(rest_order(table), often)
                for other in some_tables(size, 3, seed=12, greatest=9):
                    self.assertEqual(order(other * table * other.undone()), often)

    def test_by_traces(self):
        for table in some_tables(2, 200, seed=13, greatest=1):
            told = {(1, -1): 3, (1, 0): 4, (1, 1): 6, (-1, 0): 2}.get((table.determinant, table.trace))
            if table in (idle(2), idle(2).power(0)):
                told = 1
            elif table == Table([[-1, 0], [0, -1]]):
                told = 2
            self.assertEqual(order(table), told)

    def test_of_members(self):
        for lot in finite_lots():
            for member in lot.members():
                self.assertEqual(order(member), order_by_hand(member))

    def test_wrong(self):
        for call in (order, rest_order, lambda table: home(table, 1), lambda table: home(table, None)):
            self.fails_for_all(InvalidTable, call, WRONG + [1, TURN.rows, [TURN], Form([[1]]), Table])


class Home(Case):
    def test_numbers(self):
        for rows, often in KNOWN:
            table = Table(rows)
            for number in range(-13, 14):
                self.assertIs(home(table, number), table.power(number) == idle(table.size))
            for number in (12 * BIG, -12 * BIG, 12 * BIG + 1, -12 * BIG - 2, 12 * BIG + 3, 12 * BIG + 4, 10 ** 29, -BIG):
                self.assertIs(home(table, number), often is not None and number % often == 0)
        self.assertIs(home(table=TURN, number=-12), True)
        self.assertIs(home(SLANT, 0), True)
        self.assertIs(home(SLANT, BIG), False)
        self.assertIs(home(Table([[1, BIG], [0, 1]]), 0), True)

    def test_wrong(self):
        for table in (TURN, SLANT, idle(1)):
            self.fails_for_all(InvalidNumber, lambda number: home(table, number), WRONG + ["0", [0], TURN])


class RestOrders(Case):
    def test_known(self):
        self.assertEqual([rest_order(SLANT), rest_order(table=TURN), rest_order(SLANT.power(3)), rest_order(idle(3))], [3, 6, 1, 1])
        self.assertEqual(rest_order(Table([[1, 0], [3 * BIG, 1]])), 1)
        self.assertEqual(rest_order(Table([[0, 0, 1], [1, 0, 0], [0, 1, 1]])), rest_order_by_hand(Table([[0, 0, 1], [1, 0, 0], [0, 1, 1]])))

    def test_by_powers(self):
        told = {}
        for size in (1, 2, 3):
            for table in some_tables(size, 120, seed=14):
                often = self.leaves(rest_order, table)
                self.assertEqual(often, rest_order_by_hand(table))
                told[(size, often)] = True
        # Among the tables are some of the greatest rest order that there is for their size.
        self.assertTrue({(1, 1), (1, 2), (2, 8), (3, 13), (3, 26)} <= set(told))

    def test_of_lots(self):
        for lot in endless_lots():
            for maker in lot.makers():
                self.assertEqual(rest_order(maker), rest_order_by_hand(maker))
                self.assertEqual(order(maker), order_by_hand(maker))
