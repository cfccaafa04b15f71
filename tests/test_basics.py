from common import BIG, WRONG, Case
from keptbowls.basics import is_count, is_integer, is_list
from keptbowls.rows import is_row


class Basics(Case):
    def test_integers(self):
        for value in (0, 1, -1, 7, BIG, -BIG):
            self.assertIs(is_integer(value), True)
        for value in WRONG + [[1], (1,)]:
            self.assertIs(is_integer(value), False)

    def test_counts(self):
        for value in (0, 1, BIG):
            self.assertIs(is_count(value), True)
        for value in WRONG + [-1, -BIG, [1], (0,)]:
            self.assertIs(is_count(value), False)

    def test_lists(self):
        for value in ([], (), [1], (None,), [[]]):
            self.assertIs(is_list(value), True)
        for value in WRONG + [0, 1]:
            self.assertIs(is_list(value), False)

    def test_arguments_by_name(self):
        self.assertEqual([is_integer(value=1), is_count(value=-1), is_list(value=()), is_row(value=[1])],
                         [True, False, True, True])


class Rows(Case):
    def test_rows(self):
        for value in ([0], (0,), [1, -2], (1, -2), [1, 2, 3], (BIG, -BIG, 0)):
            self.assertIs(is_row(value), True)

    def test_no_rows(self):
        for value in WRONG + [0, [], (), [1, 2, 3, 4], [True], [1, False], (1, 2, None), [[1]], ["1"], [1, 2, True]]:
            self.assertIs(is_row(value), False)
