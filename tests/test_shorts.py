import random
from itertools import permutations

from common import BIG, WRONG, Case, rows_in_box, some_bowls, some_rows, some_tables, worth_by_hand, wrong_bowls
from keptbowls.errors import InvalidBowl, InvalidMany, TooMany
from keptbowls.forms import Form, sum_form
from keptbowls.shorts import is_short_list, rows_of_worth, short_rows
from keptbowls.tables import Table

HEXAGON, SKEW, PLAIN = Form([[2, 1], [1, 2]]), Form([[5, 7], [7, 10]]), Form([[1]])
WRONG_MANY = WRONG + [-1, 10 ** 6 + 1, BIG, [1], (0,), "2"]


class ShortRows(Case):
    def test_known(self):
        self.assertEqual(short_rows(SKEW, 1), [(-3, 2), (-1, 1), (0, 0), (1, -1), (3, -2)])
        self.assertEqual(short_rows(HEXAGON, 2), [(-1, 0), (-1, 1), (0, -1), (0, 0), (0, 1), (1, -1), (1, 0)])
        self.assertEqual(short_rows(bowl=HEXAGON, many=1), [(0, 0)])
        self.assertEqual(short_rows(Form([[5]]), 45), [(-3,), (-2,), (-1,), (0,), (1,), (2,), (3,)])
        self.assertEqual(short_rows(Form([[5]]), 44), [(-2,), (-1,), (0,), (1,), (2,)])
        self.assertEqual(len(short_rows(sum_form(3), 2)), 1 + 6 + 12)

    def test_all_rows_of_a_box(self):
        for size, most in ((1, 300), (2, 60), (3, 24)):
            for rows in some_bowls(size, 40):
                for many in (0, 1, most // 3, most):
                    known = rows_in_box(rows, many)
                    with self.subTest(rows=rows, many=many):
                        if len(known) > 400:
                            self.fails(TooMany, short_rows, Form(rows), many, what="rows", limit=400)
                        else:
                            self.assertEqual(short_rows(Form(rows), many), known)

    def test_led_bowls(self):
        for size in (1, 2, 3):
            for rows, table in zip(some_bowls(size, 40, seed=2), some_tables(size, 40, greatest=9)):
                bowl, many = Form(rows), min(rows[i][i] for i in range(size)) + 3
                back = table.undone()
                known = sorted(back.lead(row) for row in rows_in_box(rows, many))
                self.assertEqual(short_rows(bowl.led(table), many), known)

    def test_great_numbers(self):
        for table in some_tables(2, 4) + some_tables(3, 4) + [Table([[1, 0], [BIG, 1]]), Table([[BIG, -1], [1, 0]]),
                                                             Table([[1, BIG, -BIG], [0, 1, BIG + 2], [0, 0, 1]])]:
            steps = table.power(7)
            bowl = sum_form(table.size).led(steps)
            self.assertEqual(short_rows(bowl, 1), sorted(steps.undone().lead(row)
                                                         for row in short_rows(sum_form(table.size), 1)))
        self.assertEqual(short_rows(Form([[BIG]]), 10 ** 6), [(0,)])
        self.assertEqual(short_rows(Form([[1, BIG], [BIG, BIG * BIG + 10 ** 29]]), 100)[::10], [(-10, 0), (0, 0), (10, 0)])

    def test_many_to_a_million(self):
        for rows in ([[400000, 0], [0, 999999]], [[999999, 1, 1], [1, 10 ** 6, 0], [1, 0, 10 ** 6 + 1]]):
            self.assertEqual(short_rows(Form(rows), 10 ** 6), rows_in_box(rows, 10 ** 6))
        self.assertEqual(len(short_rows(Form([[10 ** 6]]), 10 ** 6)), 3)
        self.assertEqual(short_rows(Form([[10 ** 6 + 1]]), 10 ** 6), [(0,)])
        for bowl in (sum_form(1), sum_form(2), sum_form(3), Form([[1, 0], [0, BIG]]), Form([[1, 0, 0], [0, 1, 0], [0, 0, BIG]])):
            self.fails(TooMany, short_rows, bowl, 10 ** 6, what="rows", limit=400)
        for rows in ([[60000, 1, 1], [1, 60000, 0], [1, 0, 60001]], [[9000, 0], [0, 9001]]):
            self.assertEqual(short_rows(Form(rows), 10 ** 6), rows_in_box(rows, 10 ** 6))

    def test_just_four_hundred(self):
        # With nought and contraries there is always an odd number of rows.
        self.assertEqual(short_rows(PLAIN, 199 ** 2), [(number,) for number in range(-199, 200)])
        self.assertEqual(len(short_rows(PLAIN, 200 ** 2 - 1)), 399)
        self.fails(TooMany, short_rows, PLAIN, 200 ** 2, what="rows", limit=400)
        for rows, most in (([[2, 1], [1, 2]], 250), ([[1, 0], [0, 1]], 150), ([[1, 0, 0], [0, 1, 0], [0, 0, 1]], 25),
                           ([[2, 1, 0], [1, 2, 1], [0, 1, 2]], 40), ([[1, 0], [0, 199 ** 2 - 1]], 199 ** 2)):
            worths = sorted(worth_by_hand(rows, row) for row in rows_in_box(rows, most))
            self.assertTrue(len(worths) > 400)
            # The last 16 worths that are let, and the first ones that are not.
            for worth in range(worths[400] - 16, worths[400]):
                self.assertEqual(len(short_rows(Form(rows), worth)), len([one for one in worths if one <= worth]))
            for worth in (worths[400], worths[400] + 1, 10 ** 5):
                self.fails(TooMany, short_rows, Form(rows), worth, what="rows", limit=400)

    def test_kinds(self):
        for bowl in (PLAIN, HEXAGON, sum_form(3)):
            told = self.leaves(short_rows, bowl, 2)
            self.assertEqual({type(row) for row in told}, {tuple})
            self.same_again(short_rows, bowl, 2)

    def test_wrong(self):
        for call in (short_rows, rows_of_worth, lambda bowl, many: is_short_list(bowl, many, None)):
            self.fails_for_all(InvalidBowl, lambda bowl: call(bowl, 1), wrong_bowls())
            self.fails_for_all(InvalidBowl, lambda bowl: call(bowl, None), wrong_bowls())
            self.fails_for_all(InvalidMany, lambda many: call(sum_form(3), many), WRONG_MANY)
            self.fails(TooMany, call, sum_form(3), 10 ** 6, what="rows", limit=400)
            call(Form([[10 ** 6]]), 10 ** 6)


class RowsOfWorth(Case):
    def test_rows(self):
        for size, most in ((1, 50), (2, 30), (3, 9)):
            for rows in some_bowls(size, 20, seed=3):
                known = rows_in_box(rows, most)
                for many in range(most + 1):
                    wanted = [row for row in known if worth_by_hand(rows, row) == many]
                    self.assertEqual(self.leaves(rows_of_worth, Form(rows), many), wanted)
        self.same_again(rows_of_worth, HEXAGON, 2)

    def test_none(self):
        self.assertEqual(rows_of_worth(bowl=HEXAGON, many=4), [])
        self.assertEqual(rows_of_worth(PLAIN, 3), [])
        self.assertEqual(rows_of_worth(sum_form(3), 7), [])
        self.assertEqual([rows_of_worth(sum_form(size), 0) for size in (1, 2, 3)], [[(0,)], [(0, 0)], [(0, 0, 0)]])

    def test_too_many_of_lesser_worths(self):
        self.assertEqual(rows_of_worth(PLAIN, 199 ** 2), [(-199,), (199,)])
        self.fails(TooMany, rows_of_worth, PLAIN, 200 ** 2, what="rows", limit=400)
        self.fails(TooMany, rows_of_worth, PLAIN, 200 ** 2 + 1, what="rows", limit=400)


class ShortLists(Case):
    def test_sequences_and_kinds(self):
        told = short_rows(SKEW, 1)
        for order in permutations(told):
            self.assertIs(is_short_list(SKEW, 1, list(order)), True)
        self.assertIs(is_short_list(bowl=SKEW, many=1, value=tuple(list(row) for row in told)), True)
        for many in (0, 5, 20):
            self.assertIs(is_short_list(sum_form(3), many, short_rows(sum_form(3), many)[::-1]), True)
        self.assertIs(is_short_list(PLAIN, 199 ** 2, short_rows(PLAIN, 199 ** 2)), True)

    def test_not_all_once(self):
        source = random.Random(5)
        for bowl, many in ((SKEW, 1), (HEXAGON, 6), (sum_form(3), 4), (Form([[3]]), 30)):
            told = short_rows(bowl, many)
            for at in range(len(told)):
                self.assertIs(is_short_list(bowl, many, told[:at] + told[at + 1:]), False)
                self.assertIs(is_short_list(bowl, many, told[:at] + [told[at]] + told[at:]), False)
                twice = list(told)
                twice[at] = told[at - 1]
                self.assertIs(is_short_list(bowl, many, twice), False)
                self.assertIs(is_short_list(bowl, many, told[:at] + [list(told[at])] + told[at + 1:]), True)
            for row in some_rows(bowl.size, 20):
                if row not in told:
                    self.assertIs(is_short_list(bowl, many, told + [row]), False)
                    other = list(told)
                    other[source.randrange(len(told))] = row
                    self.assertIs(is_short_list(bowl, many, other), False)

    def test_values_of_other_kinds(self):
        told = short_rows(HEXAGON, 2)
        for value in WRONG + [1, (0, 0), HEXAGON, [], (), [[]], [None], [told], {row: 1 for row in told}, set(told),
                              [(True, 0)] + [row for row in told if row != (1, 0)],
                              [(False, False)] + [row for row in told if row != (0, 0)],
                              [(0, 0, 0)] + [row for row in told if row != (0, 0)],
                              [None] + told[1:], told[:-1] + [1], told[:-1] + ["10"], told + [None], told + [[0, 0]]]:
            self.assertIs(is_short_list(HEXAGON, 2, value), False)
        self.assertIs(is_short_list(PLAIN, 0, [(False,)]), False)
        self.assertIs(is_short_list(PLAIN, 0, [0]), False)
        self.assertIs(is_short_list(PLAIN, 0, [[0]]), True)

    def test_too_many_for_any_value(self):
        for value in WRONG + [[], [(0,)]]:
            self.fails(TooMany, is_short_list, PLAIN, 200 ** 2, value, what="rows", limit=400)
