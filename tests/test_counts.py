from common import BIG, WRONG, Case, rows_in_box, some_bowls, some_tables, worth_by_hand, wrong_bowls
from keptbowls.counts import unlike_worth, worth_counts
from keptbowls.errors import InvalidBowl, InvalidMany, TooMany, UnlikeSizes
from keptbowls.forms import Form, sum_form

HEXAGON, SKEW = Form([[2, 1], [1, 2]]), Form([[5, 7], [7, 10]])
WRONG_MANY = WRONG + [-1, 401, BIG, [1], (0,), "2"]


def counted(rows, many):
    worths = [worth_by_hand(rows, row) for row in rows_in_box(rows, many)]
    return [worths.count(worth) for worth in range(many + 1)]


class WorthCounts(Case):
    def test_known(self):
        self.assertEqual(worth_counts(HEXAGON, 6), [1, 0, 6, 0, 0, 0, 6])
        self.assertEqual(worth_counts(bowl=SKEW, many=5), [1, 4, 4, 0, 4, 8])
        self.assertEqual(worth_counts(sum_form(3), 8), [1, 6, 12, 8, 6, 24, 24, 0, 12])
        for size in (1, 2, 3):
            self.assertEqual(worth_counts(sum_form(size), 0), [1])
            self.assertEqual(worth_counts(sum_form(size).times(BIG), 3), [1, 0, 0, 0])
        self.same_again(worth_counts, HEXAGON, 6)

    def test_all_rows_of_a_box(self):
        for size, most in ((1, 400), (2, 100), (3, 20)):
            for rows, table in zip(some_bowls(size, 25, seed=4), some_tables(size, 25, seed=4)):
                known = counted(rows, most)
                if sum(known) <= 2000:
                    self.assertEqual(self.leaves(worth_counts, Form(rows), most), known)
                    self.assertEqual(worth_counts(Form(rows).led(table), most), known)
                    self.assertEqual([known[0], [many for many in known[1:] if many & 1]], [1, []])

    def test_to_four_hundred(self):
        self.assertEqual(sum(worth_counts(Form([[1]]), 400)), 41)
        told = worth_counts(sum_form(2), 400)
        self.assertEqual([len(told), sum(told), told[325], told[400]], [401, 1257, 24, 12])

    def test_just_two_thousand(self):
        # With nought and contraries there is always an odd number of rows.
        for numbers, many in (((1, 1, 15), 150), ((1, 2, 10), 167)):
            bowl = Form([[number if i == j else 0 for j in range(3)] for i, number in enumerate(numbers)])
            told = worth_counts(bowl, many)
            self.assertEqual(sum(told), 1999)
            more = [worth for worth in range(many, many + 4) if counted(bowl.rows, worth) != told + [0] * (worth - many)][0]
            self.fails(TooMany, worth_counts, bowl, more, what="rows", limit=2000)
            self.assertEqual(worth_counts(bowl, more - 1), told + [0] * (more - 1 - many))
        for numbers, many in (((1, 2, 5), 132), ((1, 5, 6), 189)):
            bowl = Form([[number if i == j else 0 for j in range(3)] for i, number in enumerate(numbers)])
            self.assertEqual(sum(counted(bowl.rows, many)), 2001)
            self.fails(TooMany, worth_counts, bowl, many, what="rows", limit=2000)
            self.fails(TooMany, unlike_worth, bowl, bowl, many, what="rows", limit=2000)
            self.assertEqual(sum(worth_counts(bowl, many - 1)), sum(counted(bowl.rows, many - 1)))
        self.fails(TooMany, worth_counts, sum_form(3), 400, what="rows", limit=2000)

    def test_wrong(self):
        self.fails_for_all(InvalidBowl, lambda bowl: worth_counts(bowl, None), wrong_bowls())
        for bowl in (HEXAGON, sum_form(3)):
            self.fails_for_all(InvalidMany, lambda many: worth_counts(bowl, many), WRONG_MANY)


class UnlikeWorths(Case):
    def test_known(self):
        self.assertIsNone(unlike_worth(SKEW, sum_form(2), 40))
        self.assertEqual(unlike_worth(HEXAGON, SKEW, 6), 1)
        self.assertIsNone(unlike_worth(bowl=HEXAGON, goal=SKEW, many=0))
        self.assertEqual(unlike_worth(Form([[400]]), Form([[401]]), 400), 400)
        self.assertIsNone(unlike_worth(Form([[400]]), Form([[401]]), 399))
        self.assertIsNone(unlike_worth(Form([[401]]), Form([[BIG]]), 400))

    def test_by_counts(self):
        for size, most in ((1, 60), (2, 40), (3, 9)):
            bowls = [rows for rows in some_bowls(size, 14, seed=5) if len(rows_in_box(rows, most)) <= 2000]
            known = [counted(rows, most) for rows in bowls]
            for rows, counts in zip(bowls, known):
                for other, other_counts in zip(bowls, known):
                    unlike = [at for at in range(most + 1) if counts[at] != other_counts[at]] + [None]
                    self.assertEqual(self.leaves(unlike_worth, Form(rows), Form(other), most), unlike[0])
                    if unlike[0] is not None:
                        self.assertEqual(unlike_worth(Form(rows), Form(other), unlike[0]), unlike[0])
                        self.assertIsNone(unlike_worth(Form(rows), Form(other), unlike[0] - 1))

    def test_what_a_table_leads_to(self):
        for size in (1, 2, 3):
            for rows, table in zip(some_bowls(size, 12, seed=6), some_tables(size, 12, greatest=9)):
                self.assertIsNone(unlike_worth(Form(rows), Form(rows).led(table), 12))
                self.assertIsNone(unlike_worth(Form(rows).led(table), Form(rows), 12))

    def test_wrong(self):
        for goal in (HEXAGON, None, sum_form(1)):
            for many in (6, None, 401):
                self.fails_for_all(InvalidBowl, lambda bowl: unlike_worth(bowl, goal, many), wrong_bowls())
        for many in (6, None, 401):
            self.fails_for_all(InvalidBowl, lambda goal: unlike_worth(sum_form(3), goal, many), wrong_bowls())
        for goal in (HEXAGON, sum_form(3)):
            self.fails_for_all(InvalidMany, lambda many: unlike_worth(sum_form(3), goal, many), WRONG_MANY)
        for one in (1, 2, 3):
            for other in (1, 2, 3):
                if one != other:
                    self.fails(UnlikeSizes, unlike_worth, sum_form(one), sum_form(other), 5)
                    self.fails(UnlikeSizes, unlike_worth, sum_form(one), sum_form(other), 400)
        great = sum_form(3).times(BIG)
        for pair in ((sum_form(3), great), (great, sum_form(3)), (sum_form(3), sum_form(3))):
            self.fails(TooMany, unlike_worth, *pair, 400, what="rows", limit=2000)
        self.assertEqual(unlike_worth(great, sum_form(3), 20), 1)
