from common import BIG, WRONG, Case, leads_by_hand, rows_in_box, some_bowls, some_tables, wrong_bowls
from keptbowls.errors import InvalidBowl, TooMany
from keptbowls.forms import Form, sum_form
from keptbowls.keepers import is_keeper, keepers, keepers_lot
from keptbowls.lots import Lot
from keptbowls.tables import Table, idle

HEXAGON, SKEW, PLAIN = Form([[2, 1], [1, 2]]), Form([[5, 7], [7, 10]]), Form([[1]])
# Bowls, and how many keepers they have.
KNOWN = [([[1]], 2), ([[BIG]], 2), ([[1, 0], [0, 1]], 8), ([[2, 1], [1, 2]], 12), ([[5, 7], [7, 10]], 8), ([[1, 0], [0, 2]], 4),
         ([[2, 1], [1, 3]], 4), ([[3, 1], [1, 3]], 4), ([[3, 1], [1, 4]], 2), ([[4, 1], [1, 4]], 4), ([[4, 1], [1, 7]], 2),
         ([[1, 0, 0], [0, 1, 0], [0, 0, 1]], 48), ([[2, 1, 1], [1, 2, 1], [1, 1, 2]], 48), ([[3, -1, -1], [-1, 3, -1], [-1, -1, 3]], 48),
         ([[2, 1, 0], [1, 2, 0], [0, 0, 1]], 24), ([[2, 1, 0], [1, 2, 0], [0, 0, 5]], 24), ([[1, 0, 0], [0, 1, 0], [0, 0, 3]], 16),
         ([[1, 0, 0], [0, 2, 0], [0, 0, 2]], 16), ([[4, 1, 1], [1, 4, 1], [1, 1, 4]], 12), ([[1, 0, 0], [0, 2, 0], [0, 0, 3]], 8),
         ([[2, 1, 0], [1, 5, 0], [0, 0, 3]], 8), ([[3, 1, 0], [1, 5, 0], [0, 0, 4]], 4), ([[3, 1, 1], [1, 7, 2], [1, 2, 9]], 2),
         ([[BIG, 0, 0], [0, 2 * BIG, 0], [0, 0, 3 * BIG]], 8)]


class Keepers(Case):
    def test_known(self):
        for rows, many in KNOWN:
            told = self.leaves(keepers, Form(rows))
            self.assertEqual(len(told), many)
            self.assertEqual(told, sorted(told, key=lambda table: table.rows))
            self.assertEqual({type(one) for one in told}, {Table})
            self.assertEqual(len({one.rows for one in told}), many)
            self.assertTrue(all(Form(rows).led(one) == Form(rows) for one in told))
        self.assertEqual(keepers(bowl=Form([[5]])), [Table([[-1]]), Table([[1]])])
        self.same_again(keepers, HEXAGON)

    def test_by_hand(self):
        for size, many in ((1, 3), (2, 40), (3, 25)):
            for rows in some_bowls(size, many, seed=41, greatest=2):
                if len(rows_in_box(rows, max(rows[i][i] for i in range(size)))) < 200:
                    self.assertEqual([one.rows for one in keepers(Form(rows))], leads_by_hand(rows, rows))

    def test_led(self):
        for rows, many in KNOWN:
            for table in some_tables(len(rows), 3, seed=42, greatest=9):
                steps, back = table.power(4), table.power(-4)
                told = keepers(Form(rows).led(steps))
                wanted = sorted((back * one * steps).rows for one in keepers(Form(rows)))
                self.assertEqual([one.rows for one in told], wanted)
        far = sum_form(3).led(Table([[1, BIG, -BIG], [0, 1, BIG + 2], [0, 0, 1]]))
        self.assertEqual([len(keepers(far)), keepers_lot(far).total], [48, 48])

    def test_is_keeper(self):
        for rows, many in KNOWN:
            bowl, told = Form(rows), keepers(Form(rows))
            for table in told + some_tables(bowl.size, 20, greatest=1):
                self.assertIs(self.leaves(is_keeper, bowl, table), bowl.led(table) == bowl)
            self.assertIs(is_keeper(bowl=bowl, value=idle(bowl.size)), True)
            for value in WRONG + [0, 1, idle(bowl.size).rows, bowl, [idle(bowl.size)], idle(bowl.size % 3 + 1), Lot(told[:1])]:
                self.assertIs(is_keeper(bowl, value), False)
        self.assertIs(is_keeper(HEXAGON, Table([[0, -1], [1, 1]])), True)
        self.assertIs(is_keeper(HEXAGON, [[0, -1], [1, 1]]), False)
        self.assertIs(is_keeper(SKEW, Table([[0, -1], [1, 1]])), False)

    def test_wrong(self):
        for call in (keepers, keepers_lot, lambda bowl: is_keeper(bowl, idle(2)), lambda bowl: is_keeper(bowl, None)):
            self.fails_for_all(InvalidBowl, call, wrong_bowls())


class KeepersLots(Case):
    def test_lots(self):
        for rows, many in KNOWN:
            for table in [idle(len(rows))] + some_tables(len(rows), 3, seed=43):
                bowl = Form(rows).led(table)
                told = self.leaves(keepers_lot, bowl)
                self.assertIs(type(told), Lot)
                self.assertTrue(1 <= len(told.makers()) <= 4)
                self.assertEqual(told.members(), keepers(bowl))
                self.assertEqual(told.total, many)
                self.assertEqual(keepers_lot(bowl=bowl), told)


class TooManyRows(Case):
    def test_rows_to_the_last_step(self):
        # With nought and contraries there is always an odd number of rows.
        for table in [idle(2)] + some_tables(2, 3, seed=44, greatest=9):
            near, far = Form([[1, 0], [0, 199 ** 2 - 1]]).led(table), Form([[1, 0], [0, 199 ** 2]]).led(table)
            self.assertEqual([len(keepers(near)), keepers_lot(near).total], [4, 4])
            self.fails(TooMany, keepers, far, what="rows", limit=400)
            self.fails(TooMany, keepers_lot, far, what="rows", limit=400)
            self.assertIs(is_keeper(far, idle(2)), True)
        for rows in ([[1, 0], [0, BIG]], [[1, 0, 0], [0, 1, 0], [0, 0, BIG]], [[1, 0, 0], [0, BIG, 0], [0, 0, BIG]],
                     [[1, 0, 0], [0, 1, 0], [0, 0, 200]], [[2, 1, 0], [1, 2, 0], [0, 0, 300]]):
            self.assertTrue(rows[-1][-1] == BIG or len(rows_in_box(rows, rows[-1][-1])) > 400)
            self.fails(TooMany, keepers, Form(rows), what="rows", limit=400)
            self.fails(TooMany, keepers_lot, Form(rows), what="rows", limit=400)
            self.assertIs(is_keeper(Form(rows), idle(len(rows))), True)

    def test_just_within(self):
        for rows, many in (([[1, 0, 0], [0, 1, 0], [0, 0, 110]], 16), ([[2, 1, 0], [1, 2, 0], [0, 0, 200]], 24)):
            self.assertTrue(300 < len(rows_in_box(rows, rows[2][2])) <= 400)
            self.assertEqual([len(keepers(Form(rows))), keepers_lot(Form(rows)).total], [many, many])

    def test_great_numbers_with_few_rows(self):
        self.assertEqual(len(keepers(Form([[BIG, 1], [1, BIG]]))), 4)
        self.assertEqual(len(keepers(Form([[2 * BIG, BIG], [BIG, 2 * BIG]]))), 12)
        self.assertEqual(len(keepers(PLAIN.times(BIG))), 2)
