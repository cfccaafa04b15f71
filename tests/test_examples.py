"""The examples of the document, as they are printed there: names stand for what they were in the last one."""

import doctest
import os
import unittest

README = os.path.join(os.path.dirname(os.path.dirname(os.path.abspath(__file__))), "README.md")

EXAMPLES = """
>>> from keptbowls.tables import Table, beside, idle, polynomial, rests_alike, turned
>>> six, slant = Table([[0, -1], [1, 1]]), Table([[1, 1], [0, 1]])
>>> [six * six, six.undone().rows, six.lead((2, 3)), six.power(-6) == idle(2), slant.power(3).rests(3), rests_alike(slant.power(3), idle(2), 3)]
[Table(((-1, -1), (1, 0))), ((1, 1), (-1, 0)), (-3, 5), True, ((1, 0), (0, 1)), True]
>>> [turned(six, slant), polynomial(six), beside(Table([[-1]]), six).rows]
[Table(((1, -1), (1, 0))), (1, -1, 1), ((-1, 0, 0), (0, 0, -1), (0, 1, 1))]

>>> from keptbowls.words import contrary_word, product, shortened, words_to
>>> [product([six, slant], [1, -2]), shortened([1, 2, -2, -1, -1]), contrary_word([1, -2]), words_to([six], 1)]
[Table(((0, -1), (1, 0))), [-1], [2, -1], [Table(((0, -1), (1, 1))), Table(((1, 0), (0, 1))), Table(((1, 1), (-1, 0)))]]

>>> from keptbowls.forms import Form, corners, signs, sum_form
>>> from keptbowls.tables import Table
>>> six = Form([[2, 1], [1, 2]])
>>> [six.worth([1, -1]), six.between([1, 0], [0, 1]), six.determinant, six + six == six.times(2), six.led(Table([[1, 1], [0, 1]])).rows]
[2, 1, 3, True, ((2, 3), (3, 6))]
>>> [corners(six), signs(Form([[0, 1], [1, 0]])), sum_form(2).rows, six.times(3).divisor(), six.times(4).single() == six]
[[2, 3], (1, 1, 0), ((1, 0), (0, 1)), 3, True]

>>> from keptbowls.squares import is_squares, squares
>>> [is_squares(six, [(2, (2, 1)), (6, (0, 3))]), is_squares(six, [(2, (2, 1)), (2, (0, 3))]), len(squares(six)), squares(Form([[1, 2], [2, 1]]))]
[True, False, 2, None]

>>> from keptbowls.bowls import bowl_bound, is_bowl, is_pit, pit
>>> [is_bowl(six), is_bowl(Form([[1, 2], [2, 1]])), is_pit(Form([[1, 2], [2, 1]]), [1, -1]), pit(six), bowl_bound(six, 0, 6)]
[True, False, True, None, 2]

>>> from keptbowls.equations import is_solution, is_solution_basis, solution_basis
>>> [is_solution([[2, -3, 0]], (3, 2, 7)), is_solution_basis([[2, -3, 0]], [(3, 2, 0), (0, 0, 1)]), is_solution_basis([[2, -3, 0]], [(6, 4, 0), (0, 0, 1)])]
[True, True, False]
>>> [solution_basis([[0, 0], [5, 7], [1, 2]]), len(solution_basis([[1, 1, 1, 1, 1, 1], [2, 2, 2, 2, 2, 2]]))]
[[], 5]

>>> from keptbowls.kept import is_kept_basis, is_rows_basis, keeps, kept_parts, kept_rank, kept_rows
>>> from keptbowls.forms import Form
>>> from keptbowls.tables import Table
>>> turn, slant, bowl = Table([[0, -1], [1, 1]]), Table([[1, 1], [0, 1]]), Form([[2, 1], [1, 2]])
>>> [keeps(turn, bowl), keeps(slant, bowl), is_kept_basis([turn], [bowl]), is_kept_basis([turn], [bowl.times(2)])]
[True, False, True, False]
>>> [kept_rank([slant]), kept_rank([turn, slant]), kept_parts([turn], [bowl.times(-1)], bowl.times(3)), kept_rows([turn])]
[1, 0, [-3], []]
>>> [is_rows_basis([slant], [(1, 0)]), is_rows_basis([slant], [[-1, 0]]), is_rows_basis([slant], [(2, 0)])]
[True, True, False]
"""


class Examples(unittest.TestCase):
    def test_examples_come_out_as_printed(self):
        held = doctest.DocTestParser().get_doctest(EXAMPLES, {}, "examples", None, 0)
        said = []
        told = doctest.DocTestRunner(verbose=False).run(held, out=said.append)
        self.assertEqual(told.failed, 0, "".join(said))
        self.assertEqual(told.attempted, 25)

    def test_examples_of_the_readme(self):
        with open(README, encoding="utf-8") as source:
            text = source.read().replace("```", "")
        held = doctest.DocTestParser().get_doctest(text, {}, "readme", None, 0)
        said = []
        told = doctest.DocTestRunner(verbose=False).run(held, out=said.append)
        self.assertEqual(told.failed, 0, "".join(said))
        self.assertTrue(told.attempted > 0)
