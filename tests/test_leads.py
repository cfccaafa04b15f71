from common import BIG, WRONG, Case, leads_by_hand, rows_in_box, some_bowls, some_tables, wrong_bowls
from keptbowls.counts import worth_counts
from keptbowls.errors import InvalidBowl, TooMany, TooWide, UnlikeSizes
from keptbowls.forms import Form, sum_form
from keptbowls.keepers import keepers
from keptbowls.leads import is_lead, is_unlike, lead, leads, least_form, least_lead
from keptbowls.least import least_rows, steps_of
from keptbowls.lots import Lot
from keptbowls.tables import Table, idle

HEXAGON, SKEW = Form([[2, 1], [1, 2]]), Form([[5, 7], [7, 10]])
# Bowls with one determinant, none of which is led to another one.
APART = [[[[1, 0], [0, 6]], [[2, 0], [0, 3]]],
         [[[1, 0], [0, 5]], [[2, 1], [1, 3]]],
         [[[1, 0], [0, 11]], [[3, 1], [1, 4]], [[2, 1], [1, 6]]],
         [[[1, 0, 0], [0, 1, 0], [0, 0, 4]], [[1, 0, 0], [0, 2, 0], [0, 0, 2]], [[2, 1, 1], [1, 2, 1], [1, 1, 2]]],
         [[[1, 0, 0], [0, 2, 1], [0, 1, 2]], [[1, 0, 0], [0, 1, 0], [0, 0, 3]]]]


def diagonal(*numbers):
    return Form([[number if i == j else 0 for j in range(len(numbers))] for i, number in enumerate(numbers)])


class Leads(Case):
    def test_example(self):
        self.assertIsNone(lead(HEXAGON, SKEW))
        self.assertEqual(len(leads(bowl=SKEW, goal=sum_form(2))), 8)
        self.assertTrue(is_lead(bowl=sum_form(2), goal=SKEW, value=Table([[1, 1], [2, 3]])))
        self.assertEqual(SKEW.led(lead(bowl=SKEW, goal=sum_form(2))), sum_form(2))

    def test_as_many_as_keepers(self):
        for size, many in ((1, 3), (2, 20), (3, 15)):
            for rows, table in zip(some_bowls(size, many, seed=51, greatest=2), some_tables(size, many, seed=51)):
                bowl, goal = Form(rows), Form(rows).led(table)
                told = self.leaves(leads, bowl, goal)
                self.assertEqual({type(one) for one in told}, {Table})
                self.assertEqual(told, sorted(told, key=lambda one: one.rows))
                # All leads are one of them, behind each keeper.
                self.assertEqual([one.rows for one in told], sorted((one * table).rows for one in keepers(bowl)))
                self.assertTrue(all(bowl.led(one) == goal for one in told))
                self.assertEqual(sorted(one.undone().rows for one in told), [one.rows for one in leads(goal, bowl)])
                one = self.leaves(lead, bowl, goal)
                self.assertIn(one, told)
                self.assertEqual(lead(bowl, goal), one)
                self.assertEqual(leads(bowl, bowl), keepers(bowl))
        self.same_again(leads, SKEW, sum_form(2))

    def test_one_behind_the_other(self):
        for rows, one, other in zip(some_bowls(3, 10, seed=52, greatest=2), some_tables(3, 10, seed=52), some_tables(3, 10, seed=53)):
            bowl, goal, third = Form(rows), Form(rows).led(one), Form(rows).led(other)
            self.assertTrue(is_lead(bowl, third, lead(bowl, goal) * lead(goal, third)))
            self.assertTrue(is_lead(goal, bowl, lead(bowl, goal).undone()))
            self.assertTrue(is_lead(third, goal, lead(bowl, third).undone() * lead(bowl, goal)))

    def test_by_hand(self):
        for size in (1, 2, 3):
            known = [rows for rows in some_bowls(size, 30, seed=54, greatest=1) if max(max(row) for row in rows) < 5]
            for rows, goal in zip(known, known[1:]):
                self.assertEqual([one.rows for one in leads(Form(rows), Form(goal))], leads_by_hand(rows, goal))
                self.assertIs(lead(Form(rows), Form(goal)) is None, leads_by_hand(rows, goal) == [])

    def test_none(self):
        for group in APART:
            for at, rows in enumerate(group):
                for place, goal in enumerate(group):
                    bowl, other = Form(rows), Form(goal)
                    self.assertEqual(bowl.determinant, other.determinant)
                    for table in [idle(bowl.size)] + some_tables(bowl.size, 3, seed=55):
                        self.assertIs(lead(bowl, other.led(table)) is None, at != place)
                        self.assertEqual(len(leads(bowl.led(table), other)), len(keepers(bowl)) if at == place else 0)
        for goal in (SKEW.times(2), SKEW + sum_form(2), HEXAGON, HEXAGON.times(3)):
            self.assertIsNone(lead(SKEW, goal))
            self.assertEqual(leads(goal, SKEW), [])
        # As many rows of the worths of all columns, and no table among them.
        self.assertEqual(leads(diagonal(1, 4), sum_form(2)), [])
        self.assertEqual(leads(sum_form(2), diagonal(1, 4)), [])
        self.assertEqual([leads(Form([[3]]), Form([[5]])), leads(Form([[4]]), Form([[1]]))], [[], []])
        self.assertEqual(leads(Form([[BIG]]), Form([[BIG]])), [Table([[-1]]), Table([[1]])])

    def test_same_steps_and_counts(self):
        for rows, table in zip(some_bowls(2, 15, seed=56), some_tables(2, 15, seed=56, greatest=9)):
            bowl, goal = Form(rows), Form(rows).led(table)
            self.assertIsNotNone(lead(bowl, goal))
            self.assertEqual([steps_of(bowl), worth_counts(bowl, 40)], [steps_of(goal), worth_counts(goal, 40)])

    def test_great_numbers(self):
        far = Table([[1, BIG, -BIG], [0, 1, BIG + 2], [0, 0, 1]])
        goal = sum_form(3).led(far)
        self.assertEqual(len(leads(sum_form(3), goal)), 48)
        self.assertEqual(sum_form(3).led(lead(sum_form(3), goal)), goal)
        self.assertEqual(len(leads(goal, sum_form(3))), 48)
        self.assertEqual(len(leads(HEXAGON.times(BIG), HEXAGON.times(BIG).led(Table([[1, BIG], [0, -1]])))), 12)

    def test_is_lead(self):
        for size, many in ((1, 2), (2, 8), (3, 6)):
            for rows, table in zip(some_bowls(size, many, seed=57), some_tables(size, many, seed=57)):
                bowl, goal = Form(rows), Form(rows).led(table)
                for one in some_tables(size, 12, seed=58, greatest=1) + [table, table * table, table.undone()]:
                    self.assertIs(self.leaves(is_lead, bowl, goal, one), bowl.led(one) == goal)
                for value in WRONG + [0, 1, table.rows, [list(row) for row in table.rows], bowl, [table], Lot([table]),
                                      idle(size % 3 + 1), idle((size + 1) % 3 + 1)]:
                    self.assertIs(is_lead(bowl, goal, value), False)

    def test_wrong(self):
        for call in (lead, leads, lambda bowl, goal: is_lead(bowl, goal, idle(2)), lambda bowl, goal: is_unlike(bowl, goal, 1)):
            self.fails_for_all(InvalidBowl, lambda bowl: call(bowl, sum_form(2)), wrong_bowls())
            self.fails_for_all(InvalidBowl, lambda goal: call(sum_form(3), goal), wrong_bowls())
            self.fails(InvalidBowl, call, None, Form([[0]]), value=None)
            self.fails(InvalidBowl, call, Form([[-3]]), None, value=Form([[-3]]))
            for one in (1, 2, 3):
                for other in {1, 2, 3} - {one}:
                    led = sum_form(one).led(some_tables(one, 1, seed=59)[0])
                    self.fails(UnlikeSizes, call, led, sum_form(other))
                    self.fails(UnlikeSizes, call, sum_form(other), led)
        # Unlike sizes are ahead of any value and of rows that are too many.
        for value in (None, 0, 400, 401, True, idle(2), idle(3)):
            self.fails(UnlikeSizes, is_unlike, sum_form(2), sum_form(3), value)
            self.fails(UnlikeSizes, is_lead, sum_form(2), sum_form(3), value)
        self.fails(UnlikeSizes, lead, diagonal(1, 10 ** 6), sum_form(3))
        self.fails(UnlikeSizes, leads, diagonal(1, 10 ** 6), sum_form(1))


class TooManyRows(Case):
    def test_rows_of_the_bowl_to_its_last_step(self):
        # With nought and contraries there is always an odd number of rows.
        near, far = diagonal(1, 199 ** 2 - 1), diagonal(1, 199 ** 2)
        for table in [idle(2)] + some_tables(2, 3, seed=60, greatest=9):
            self.assertEqual(len(leads(near.led(table), near)), 4)
            self.assertEqual(near.led(table).led(lead(near.led(table), near)), near)
            for call in (lead, leads):
                # Whatever the goal is.
                for goal in (far, near, sum_form(2), HEXAGON, Form([[BIG, 1], [1, BIG]]), far.led(table)):
                    self.fails(TooMany, call, far.led(table), goal, what="rows", limit=400)
                # The rows of the goal do not count.
                for goal in (far, far.led(table), diagonal(1, BIG)):
                    self.assertFalse(call(near, goal))
                    self.assertFalse(call(HEXAGON.led(table), goal))
            self.assertIs(is_lead(far, far.led(table), table), True)

    def test_three_columns(self):
        near, far = diagonal(1, 1, 110), diagonal(1, 1, 200)
        self.assertTrue(300 < len(rows_in_box(near.rows, 110)) <= 400 < len(rows_in_box(far.rows, 200)))
        self.assertEqual(len(leads(near, near)), 16)
        for goal in (near, far, sum_form(3)):
            self.fails(TooMany, lead, far, goal, what="rows", limit=400)
            self.fails(TooMany, leads, far, goal, what="rows", limit=400)
        self.assertEqual([lead(near, far), leads(sum_form(3), far)], [None, []])


class Unlike(Case):
    def test_worths(self):
        for size in (1, 2, 3):
            known = [Form(rows) for rows in some_bowls(size, 8, seed=61)]
            for bowl, goal in zip(known, known[1:]):
                counts, others = worth_counts(bowl, 25), worth_counts(goal, 25)
                for worth in range(26):
                    self.assertIs(self.leaves(is_unlike, bowl, goal, worth), counts[worth] != others[worth])
                    self.assertIs(is_unlike(bowl, bowl, worth), False)
        self.assertIs(is_unlike(bowl=HEXAGON, goal=SKEW, value=1), True)

    def test_edges(self):
        self.assertEqual([is_unlike(HEXAGON, SKEW, worth) for worth in (0, 1, 2, 3, True)], [False, True, True, False, False])
        self.assertIs(is_unlike(Form([[4]]), Form([[3]]), 400), True)
        self.assertIs(is_unlike(Form([[401]]), Form([[3]]), 401), False)
        self.assertIs(is_unlike(HEXAGON, SKEW, 0), False)
        for value in WRONG + [-1, 401, BIG, [1], (1,), "1", idle(2), HEXAGON, False]:
            self.assertIs(is_unlike(HEXAGON, SKEW, value), False)

    def test_too_many_rows(self):
        many = next(worth for worth in range(400) if sum(worth_counts(sum_form(3), worth + 1)) > 1900)
        while len(rows_in_box(sum_form(3).rows, many)) <= 2000:
            many += 1
        for bowl, goal in ((sum_form(3), sum_form(3)), (sum_form(3), diagonal(9, 9, 9)), (diagonal(9, 9, 9), sum_form(3))):
            for value in (many, 399, 400):
                self.fails(TooMany, is_unlike, bowl, goal, value, what="rows", limit=2000)
            for value in (401, BIG, None, True, -1, "400", [400]):
                self.assertIs(is_unlike(bowl, goal, value), False)
        self.assertIs(is_unlike(sum_form(3), diagonal(9, 9, 9), many - 1), worth_counts(sum_form(3), many - 1)[-1] > 0)


class LeastForms(Case):
    def test_least(self):
        self.assertEqual(least_form(bowl=SKEW), sum_form(2))
        for rows, one in zip(some_bowls(2, 60, seed=62, greatest=6), some_tables(2, 60, seed=62, greatest=9)):
            bowl = Form(rows)
            told = self.leaves(least_form, bowl)
            ((a, b), (_, c)) = told.rows
            self.assertTrue(0 <= 2 * b <= a <= c)
            self.assertEqual([a, c], steps_of(bowl))
            self.assertIn((1, 0), least_rows(told))
            table = self.leaves(least_lead, bowl)
            self.assertIs(type(table), Table)
            self.assertEqual(bowl.led(table), told)
            for other in (bowl.led(one), bowl.led(one).led(one), bowl.led(one.undone()), told):
                self.assertEqual(least_form(other), told)
                self.assertEqual(other.led(least_lead(bowl=other)), told)
            self.assertEqual(least_form(told), told)

    def test_all_small_ones(self):
        known = [(a, b, c) for a in range(1, 8) for b in range(-7, 8) for c in range(1, 8) if a * c > b * b]
        least = [numbers for numbers in known if 0 <= 2 * numbers[1] <= numbers[0] <= numbers[2]]
        for a, b, c in known:
            told = least_form(Form([[a, b], [b, c]])).rows
            self.assertIn((told[0][0], told[0][1], told[1][1]), least)
            self.assertTrue((told == ((a, b), (b, c))) == ((a, b, c) in least))

    def test_like_many_leads(self):
        known = [Form(rows) for rows in some_bowls(2, 25, seed=63, greatest=2)]
        for bowl in known:
            for goal in known:
                self.assertIs(lead(bowl, goal) is not None, least_form(bowl) == least_form(goal))

    def test_one_column(self):
        for number in (1, 2, 7, BIG):
            self.assertEqual(least_form(Form([[number]])), Form([[number]]))
            self.assertEqual(Form([[number]]).led(least_lead(Form([[number]]))), Form([[number]]))

    def test_great_numbers(self):
        far = Form([[1, 0], [0, 3]]).led(Table([[BIG, 1], [BIG * BIG - 1, BIG]]))
        self.assertEqual(least_form(far), diagonal(1, 3))
        self.assertEqual(far.led(least_lead(far)), diagonal(1, 3))

    def test_wrong(self):
        for call in (least_form, least_lead):
            self.fails_for_all(InvalidBowl, call, wrong_bowls())
            for rows in some_bowls(3, 5, seed=64):
                self.fails(TooWide, call, Form(rows))
            self.fails(InvalidBowl, call, Form([[0] * 3] * 3), value=Form([[0] * 3] * 3))
