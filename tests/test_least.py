from itertools import permutations

from common import BIG, WRONG, Case, by_hand, rows_in_box, some_bowls, some_rows, some_tables, worth_by_hand, wrong_bowls
from keptbowls.errors import InvalidBowl
from keptbowls.forms import Form, sum_form
from keptbowls.least import is_step_rows, least_rows, least_worth, step_rows, steps_of
from keptbowls.tables import Table

HEXAGON, SKEW = Form([[2, 1], [1, 2]]), Form([[5, 7], [7, 10]])
FAR = Form([[1, 0, 0], [0, 50, 7], [0, 7, 1]])


def rank(rows):
    """How many independent rows there are, by minors."""
    if not any(any(row) for row in rows):
        return 0
    size = len(rows[0])
    for many in range(size, 1, -1):
        for chosen in permutations(rows, many):
            for places in permutations(range(size), many):
                if by_hand([[row[place] for place in places] for row in chosen]) != 0:
                    return many
    return 1


def steps_by_hand(rows):
    """The steps, from all rows of a box: each one at which the row is not made of the ones taken ahead."""
    known = rows_in_box(rows, max(rows[i][i] for i in range(len(rows))))
    taken, steps = [], []
    for row in sorted(known, key=lambda row: worth_by_hand(rows, row)):
        if len(taken) < len(rows) and rank(taken + [row]) > len(taken):
            taken.append(row)
            steps.append(worth_by_hand(rows, row))
    return steps


class Least(Case):
    def test_known(self):
        self.assertEqual([least_worth(HEXAGON), least_worth(SKEW), least_worth(bowl=FAR)], [2, 1, 1])
        self.assertEqual(least_rows(SKEW), [(-3, 2), (-1, 1), (1, -1), (3, -2)])
        self.assertEqual(least_rows(bowl=Form([[BIG]])), [(-1,), (1,)])
        self.assertEqual(least_worth(Form([[BIG]])), BIG)
        self.assertEqual([len(least_rows(HEXAGON)), len(least_rows(Form([[2, 1, 1], [1, 2, 1], [1, 1, 2]])))], [6, 12])
        self.assertEqual(least_rows(Form([[2 * BIG, BIG], [BIG, 2 * BIG]])), least_rows(HEXAGON))

    def test_by_box(self):
        for size in (1, 2, 3):
            for rows in some_bowls(size, 40, seed=7):
                bowl = Form(rows)
                known = rows_in_box(rows, min(rows[i][i] for i in range(size)))
                least = min(worth_by_hand(rows, row) for row in known if any(row))
                self.assertEqual(self.leaves(least_worth, bowl), least)
                wanted = [row for row in known if worth_by_hand(rows, row) == least]
                self.assertEqual(self.leaves(least_rows, bowl), wanted)
                self.assertTrue(len(wanted) <= (2, 6, 12)[size - 1])
                bound = (1, 4, 2)[size - 1] * bowl.determinant
                self.assertTrue((1, 3, 1)[size - 1] * least ** size <= bound)
        self.same_again(least_rows, SKEW)

    def test_led(self):
        for size in (1, 2, 3):
            for rows, table in zip(some_bowls(size, 20, seed=8), some_tables(size, 20, greatest=9)):
                bowl, led = Form(rows), Form(rows).led(table.power(5))
                back = table.power(-5)
                self.assertEqual(least_worth(led), least_worth(bowl))
                self.assertEqual(least_rows(led), sorted(back.lead(row) for row in least_rows(bowl)))
                self.assertEqual(steps_of(led), steps_of(bowl))
                self.assertIs(is_step_rows(led, [back.lead(row) for row in step_rows(bowl)]), True)

    def test_wrong(self):
        for call in (least_worth, least_rows, steps_of, step_rows, lambda bowl: is_step_rows(bowl, None)):
            self.fails_for_all(InvalidBowl, call, wrong_bowls())


class Steps(Case):
    def test_known(self):
        self.assertEqual([steps_of(FAR), steps_of(Form([[9, 0], [0, 2]])), steps_of(bowl=HEXAGON)], [[1, 1, 1], [2, 9], [2, 2]])
        self.assertEqual(steps_of(Form([[BIG, 0, 0], [0, 3, 0], [0, 0, 2 * BIG]])), [3, BIG, 2 * BIG])
        # Here none of the unit rows is a least row, and no two of them are step rows.
        bowl = Form([[5, 2, 2], [2, 5, 3], [2, 3, 5]])
        self.assertEqual(steps_of(bowl), steps_by_hand(bowl.rows))
        self.same_again(steps_of, HEXAGON)
        self.same_again(step_rows, HEXAGON)

    def test_by_box(self):
        for size, many in ((1, 10), (2, 40), (3, 30)):
            for rows in some_bowls(size, many, seed=9, greatest=2):
                bowl = Form(rows)
                steps = steps_by_hand(rows)
                self.assertEqual(self.leaves(steps_of, bowl), steps)
                told = self.leaves(step_rows, bowl)
                self.assertEqual([worth_by_hand(rows, row) for row in told], steps)
                self.assertIn(by_hand(told), (1, -1))
                self.assertEqual({type(row) for row in told}, {tuple})
                self.assertIs(is_step_rows(bowl, told), True)
                whole, bound = 1, (bowl.determinant, 4 * bowl.determinant // 3, 2 * bowl.determinant)[size - 1]
                for step in steps:
                    whole *= step
                self.assertTrue(bowl.determinant <= whole <= bound)
                self.assertEqual(step_rows(bowl), told)

    def test_great_numbers(self):
        for table in some_tables(3, 6, seed=5) + [Table([[1, BIG, -BIG], [0, 1, BIG + 2], [0, 0, 1]])]:
            for form in (FAR, sum_form(3), Form([[2, 1, 0], [1, 3, 1], [0, 1, BIG]])):
                bowl = form.led(table.power(4))
                self.assertEqual(steps_of(bowl), steps_of(form))
                self.assertIs(is_step_rows(bowl, step_rows(bowl)), True)


class StepRows(Case):
    def test_any_of_them(self):
        for size in (1, 2, 3):
            for rows in some_bowls(size, 15, seed=10, greatest=2):
                bowl, steps = Form(rows), steps_by_hand(rows)
                known = rows_in_box(rows, steps[-1])
                choices = [[row for row in known if worth_by_hand(rows, row) == step] for step in steps]
                lists = [[]]
                for choice in choices:
                    lists = [told + [row] for told in lists for row in choice][:400]
                for told in lists:
                    self.assertIs(is_step_rows(bowl, told), by_hand(told) != 0)

    def test_but_for_one_thing(self):
        self.assertIs(is_step_rows(bowl=HEXAGON, value=([1, 0], (1, -1))), True)
        near = Form([[1, 0, 0], [0, 2, 0], [0, 0, 3]])
        good = [(1, 0, 0), (0, 1, 0), (0, 0, 1)]
        self.assertIs(is_step_rows(near, good), True)
        self.assertIs(is_step_rows(near, [[-1, 0, 0], (0, -1, 0), [0, 0, 1]]), True)
        for order in permutations(good):
            self.assertIs(is_step_rows(near, list(order)), list(order) == good)
        # (1, 1, 0) has the worth of the third one, but is made of the two ones ahead.
        for value in ([(1, 0, 0), (0, 1, 0), (1, 1, 0)], [(1, 0, 0), (0, 1, 0), (1, -1, 0)], good[:2], good + [(0, 0, 1)],
                      [], [good], good + [None], [(1, 0, 0), (0, 1, 0), (0, 1, 1)], [(2, 0, 0), (0, 1, 0), (0, 0, 1)],
                      [(True, 0, 0), (0, 1, 0), (0, 0, 1)], [(1, 0, False), (0, 1, 0), (0, 0, 1)], [(1, 0), (0, 1), (0, 0)],
                      [(1, 0, 0), None, (0, 0, 1)], [(1, 0, 0), (0, 1, 0), 1], [(1, 0, 0), (0, 1, 0), (0, 0, 1, 0)],
                      {row: 1 for row in good}, set(good), "100", Table(good), near):
            self.assertIs(is_step_rows(near, value), False)
        for value in WRONG + [1, (1, 0, 0)]:
            self.assertIs(is_step_rows(near, value), False)
        self.assertIs(is_step_rows(HEXAGON, [(1, 0), (-1, 0)]), False)
        for row in some_rows(2, 40):
            self.assertIs(is_step_rows(HEXAGON, [(1, 0), row]), row in least_rows(HEXAGON) and row[1] != 0)
        self.assertIs(is_step_rows(Form([[7]]), [[-1]]), True)
        self.assertIs(is_step_rows(Form([[7]]), [[-2]]), False)
