"""The examples of the document, as they are printed there: names stand for what they were in the last one."""

import doctest
import os
import unittest

README = os.path.join(os.path.dirname(os.path.dirname(os.path.abspath(__file__))), "README.md")

EXAMPLES = """
>>> from keptbowls.tables import Table, beside, idle, polynomial, rests_alike, turned
>>> six, slant = Table([[0, -1], [1, 1]]), Table([[1, 1], [0, 1]])
>>> [six * six, six.undone().rows, six.lead((2, 3)), six.power(-6) == idle(2), slant.power(3).rests(3), rests_alike(slant.power(3), idle(2), 3)]
[Table(((-1, -1), (1, 0))), ((1, 1), (-1, 0)), (-3, 5), True, ((1, 0), (0, 1)), True]
>>> [turned(six, slant), polynomial(six), beside(Table([[-1]]), six).rows]
[Table(((1, -1), (1, 0))), (1, -1, 1), ((-1, 0, 0), (0, 0, -1), (0, 1, 1))]

>>> from keptbowls.words import contrary_word, product, shortened, words_to
>>> [product([six, slant], [1, -2]), shortened([1, 2, -2, -1, -1]), contrary_word([1, -2]), words_to([six], 1)]
[Table(((0, -1), (1, 0))), [-1], [2, -1], [Table(((0, -1), (1, 1))), Table(((1, 0), (0, 1))), Table(((1, 1), (-1, 0)))]]

>>> from keptbowls.forms import Form, corners, signs, sum_form
>>> from keptbowls.tables import Table
>>> six = Form([[2, 1], [1, 2]])
>>> [six.worth([1, -1]), six.between([1, 0], [0, 1]), six.determinant, six + six == six.times(2), six.led(Table([[1, 1], [0, 1]])).rows]
[2, 1, 3, True, ((2, 3), (3, 6))]
>>> [corners(six), signs(Form([[0, 1], [1, 0]])), sum_form(2).rows, six.times(3).divisor(), six.times(4).single() == six]
[[2, 3], (1, 1, 0), ((1, 0), (0, 1)), 3, True]

>>> from keptbowls.squares import is_squares, squares
>>> [is_squares(six, [(2, (2, 1)), (6, (0, 3))]), is_squares(six, [(2, (2, 1)), (2, (0, 3))]), len(squares(six)), squares(Form([[1, 2], [2, 1]]))]
[True, False, 2, None]

>>> from keptbowls.bowls import bowl_bound, is_bowl, is_pit, pit
>>> [is_bowl(six), is_bowl(Form([[1, 2], [2, 1]])), is_pit(Form([[1, 2], [2, 1]]), [1, -1]), pit(six), bowl_bound(six, 0, 6)]
[True, False, True, None, 2]

>>> from keptbowls.equations import is_solution, is_solution_basis, solution_basis
>>> [is_solution([[2, -3, 0]], (3, 2, 7)), is_solution_basis([[2, -3, 0]], [(3, 2, 0), (0, 0, 1)]), is_solution_basis([[2, -3, 0]], [(6, 4, 0), (0, 0, 1)])]
[True, True, False]
>>> [solution_basis([[0, 0], [5, 7], [1, 2]]), len(solution_basis([[1, 1, 1, 1, 1, 1], [2, 2, 2, 2, 2, 2]]))]
[[], 5]

>>> from keptbowls.kept import is_kept_basis, is_rows_basis, keeps, kept_parts, kept_rank, kept_rows
>>> from keptbowls.forms import Form
>>> from keptbowls.tables import Table
>>> turn, slant, bowl = Table([[0, -1], [1, 1]]), Table([[1, 1], [0, 1]]), Form([[2, 1], [1, 2]])
>>> [keeps(turn, bowl), keeps(slant, bowl), is_kept_basis([turn], [bowl]), is_kept_basis([turn], [bowl.times(2)])]
[True, False, True, False]
>>> [kept_rank([slant]), kept_rank([turn, slant]), kept_parts([turn], [bowl.times(-1)], bowl.times(3)), kept_rows([turn])]
[1, 0, [-3], []]
>>> [is_rows_basis([slant], [(1, 0)]), is_rows_basis([slant], [[-1, 0]]), is_rows_basis([slant], [(2, 0)])]
[True, True, False]

>>> from keptbowls.shorts import is_short_list, rows_of_worth, short_rows
>>> hexagon, skew = Form([[2, 1], [1, 2]]), Form([[5, 7], [7, 10]])
>>> [short_rows(skew, 1), rows_of_worth(hexagon, 2) == short_rows(hexagon, 2)[:3] + short_rows(hexagon, 2)[4:]]
[[(-3, 2), (-1, 1), (0, 0), (1, -1), (3, -2)], True]
>>> [is_short_list(skew, 1, [[0, 0], (1, -1), [-1, 1], (3, -2), (-3, 2)]), is_short_list(skew, 1, [(0, 0), (1, -1)])]
[True, False]

>>> from keptbowls.counts import unlike_worth, worth_counts
>>> [worth_counts(hexagon, 6), worth_counts(skew, 5), unlike_worth(skew, sum_form(2), 40), unlike_worth(hexagon, skew, 6)]
[[1, 0, 6, 0, 0, 0, 6], [1, 4, 4, 0, 4, 8], None, 1]

>>> from keptbowls.least import is_step_rows, least_rows, least_worth, step_rows, steps_of
>>> far = Form([[1, 0, 0], [0, 50, 7], [0, 7, 1]])
>>> [least_worth(hexagon), least_rows(skew), steps_of(far), steps_of(Form([[9, 0], [0, 2]]))]
[2, [(-3, 2), (-1, 1), (1, -1), (3, -2)], [1, 1, 1], [2, 9]]
>>> [is_step_rows(far, step_rows(far)), is_step_rows(hexagon, [(1, 0), (1, -1)]), is_step_rows(hexagon, [(1, 0), (-1, 0)])]
[True, True, False]

>>> from keptbowls.orders import home, order, rest_order
>>> from keptbowls.tables import Table
>>> turn, slant = Table([[0, -1], [1, 1]]), Table([[1, 1], [0, 1]])
>>> [order(turn), order(slant), home(turn, -12), home(slant, 0), rest_order(slant)]
[6, None, True, True, 3]

>>> from keptbowls.lots import Lot
>>> lot, wide = Lot([turn, Table([[0, 1], [1, 0]])]), Lot([slant])
>>> [lot.total, wide.total, lot.has(Table([[-1, 0], [0, -1]])), len(lot.word_of(turn * turn)), wide.product([1, 1, -1]) == slant]
[12, None, True, 2, True]
>>> Lot([slant])
Lot([Table(((1, 1), (0, 1)))])

>>> from keptbowls.forms import Form
>>> from keptbowls.verdicts import endless_paper, is_bowl_paper, is_endless_paper, kept_bowl, rest_members
>>> [kept_bowl(lot) == Form([[2, 1], [1, 2]]), is_bowl_paper(lot, Form([[4, 2], [2, 4]])), endless_paper(lot), len(rest_members(lot, 2))]
[True, True, None, 6]
>>> [is_endless_paper(wide, ([1], 3)), is_endless_paper(wide, ([1], 2)), is_endless_paper(wide, [[1] * many for many in range(13)])]
[True, False, True]

>>> from keptbowls.parts import beside_lots, is_within, same_members, shares, turned_lot
>>> turn, flip = Table(((0, -1), (1, 0))), Table(((1, 0), (0, -1)))
>>> square, four = Lot([turn, flip]), Lot([turn])
>>> [is_within(four, square), same_members(square, Lot([flip, flip * turn])), [len(one) for one in shares(square, four)], turned_lot(four, flip).makers() == [turn.undone()], beside_lots(four, Lot([Table(((-1,),))])).total]
[True, True, [4, 4], True, 8]

>>> from keptbowls.classes import classes, goes_together, middle, orders_of, turned_members
>>> [[one.rows for one in turned_members(square, flip)], [len(one) for one in classes(square)], [one.rows for one in middle(square)]]
[[((-1, 0), (0, 1)), ((1, 0), (0, -1))], [1, 2, 2, 2, 1], [((-1, 0), (0, -1)), ((1, 0), (0, 1))]]
>>> [goes_together(square), goes_together(four), orders_of(square)]
[False, True, {1: 1, 2: 5, 4: 2}]

>>> from keptbowls.makers import fewest_makers, is_makers, made_by, some_makers, sub_lots
>>> [fewest_makers(square), some_makers(Lot([idle(3)])), is_makers(square, [flip, turn]), is_makers(square, [turn]), sub_lots(square), made_by(square, [turn * turn]).total]
[2, [], True, False, 10, 2]

>>> from keptbowls.keepers import is_keeper, keepers, keepers_lot
>>> [len(keepers(hexagon)), keepers(Form([[5]])), is_keeper(hexagon, Table([[0, -1], [1, 1]])), is_keeper(hexagon, [[0, -1], [1, 1]])]
[12, [Table(((-1,),)), Table(((1,),))], True, False]
>>> [keepers_lot(sum_form(3)).total, keepers_lot(skew).members() == keepers(skew)]
[48, True]

>>> from keptbowls.leads import is_lead, is_unlike, lead, leads, least_form, least_lead
>>> [least_form(skew), skew.led(least_lead(skew)) == sum_form(2), lead(hexagon, skew), len(leads(skew, sum_form(2)))]
[Form(((1, 0), (0, 1))), True, None, 8]
>>> [is_lead(sum_form(2), skew, Table([[1, 1], [2, 3]])), is_unlike(hexagon, skew, 1), is_unlike(hexagon, skew, 3), is_unlike(hexagon, skew, True)]
[True, True, False, False]

>>> from keptbowls.plane import is_kind_lead, kind_lead, plane_kind, told_lot
>>> [plane_kind(Lot([Table([[1, 1], [0, -1]])])), plane_kind(keepers_lot(hexagon)), told_lot("4").makers()]
['c', '6mm', [Table(((0, -1), (1, 0)))]]
>>> [same_members(turned_lot(square, kind_lead(square)), told_lot("4mm")), is_kind_lead(square, idle(2)), is_kind_lead(square, Table([[1, 1], [0, 1]]))]
[True, True, False]

>>> from keptbowls.lots import Lot
>>> from keptbowls.rounds import rest_rounds, round_of, rounds_within, stayers
>>> from keptbowls.tables import Table
>>> six, pair = Lot([Table([[0, -1], [1, 1]])]), Lot([Table([[0, 1], [1, 0]])])
>>> [round_of(six, (1, 0)), stayers(pair, [2, 2]), rest_rounds(six, 3), len(rounds_within(six, 6))]
[[(-1, 0), (-1, 1), (0, -1), (0, 1), (1, -1), (1, 0)], [Table(((0, 1), (1, 0))), Table(((1, 0), (0, 1)))], 3, 3]

>>> from keptbowls.means import kept_part, mean_forms, mean_rounds, mean_trace, sum_table
>>> [sum_table(pair), kept_part(pair, (3, -1)), mean_trace(pair), mean_forms(pair), mean_trace(six), mean_forms(six), mean_rounds(six, 3)]
[((1, 1), (1, 1)), (2, 2), 1, 2, 0, 1, 3]

>>> from keptbowls.degrees import averaged, degree_counts, is_kept_poly, poly_led, solved_count
>>> [poly_led(Table([[0, -1], [1, 1]]), {(1, 1): 1}), averaged(six, {(2, 0): 1}), degree_counts(six, 6), solved_count(six, 4)]
[{(0, 2): -1, (1, 1): -1}, {(0, 2): 4, (1, 1): 4, (2, 0): 4}, [1, 0, 1, 0, 1, 0, 3], 1]
>>> [is_kept_poly(six, {(2, 0): 1, (1, 1): 1, (0, 2): 1}), is_kept_poly(pair, {(1, 0): 1})]
[True, False]

>>> from keptbowls.tables import Table
>>> from keptbowls.texts import is_of, written
>>> [written("table", Table([[0, -1], [1, 1]])), written("word", [1, -2, 1]), written("word", []), is_of("row", [1, True])]
['table 0,-1;1,1\\n', 'word 1.-2.1\\n', 'word -\\n', False]

>>> from keptbowls.readers import read
>>> [read("row 1,-2\\n"), read("lot\\nmaker 0,-1;1,1\\nmaker 0,1;1,0\\n")[1].total, read("poly\\nproduct 1,1 -3\\nproduct 2,0 1\\n")]
[('row', (1, -2)), 12, ('poly', {(1, 1): -3, (2, 0): 1})]

>>> from keptbowls.forms import Form
>>> from keptbowls.claims import contrary, is_paper_of, is_true
>>> step, round_form = Table([[0, -1], [1, 1]]), Form([[2, 1], [1, 2]])
>>> [is_true(("home", step)), contrary(("keeps", step, round_form))[0], is_paper_of(("keeps", step, round_form), [(0, 1), (-1, 1)]), is_paper_of(("bowl", round_form), [(2, (2, 1)), (6, (0, 3))]), is_paper_of(("pit", Form([[1, 2], [2, 1]])), (2, -1))]
[True, 'breaks', True, True, True]

>>> from keptbowls.commands import is_command, is_deed
>>> [is_command("table a 0,-1;1,1"), is_command("table a 0,-1;1"), is_command("product l 1.-2.1"), is_command("product l 1.0"), is_command("power b a -99")]
[True, False, True, False, True]
>>> [is_deed("lot l a,m"), is_deed("count l"), is_command("claim c keeps a g")]
[True, False, True]

>>> from keptbowls.desk import Desk
>>> desk = Desk()
>>> desk.do_all("table a 0,-1;1,1", "table m 0,1;1,0", "lot l a,m", "claim f finite l", "count l", "bowl g l", "shown g", "orders l")
['-', '-', '-', 'f true', '12', '-', 'form 2,1;1,2', '1:1 2:7 3:2 6:2']
>>> desk.do_all("table s 1,1;0,1", "more l s", "count l", "undo", "order s", "point s 3,-1", "holds l s")
['-', 'f false', 'endless', 'more l s', 'none', '2,-1', 'no']
"""


class Examples(unittest.TestCase):
    def test_examples_come_out_as_printed(self):
        held = doctest.DocTestParser().get_doctest(EXAMPLES, {}, "examples", None, 0)
        said = []
        told = doctest.DocTestRunner(verbose=False).run(held, out=said.append)
        self.assertEqual(told.failed, 0, "".join(said))
        self.assertEqual(told.attempted, 91)

    def test_examples_of_the_readme(self):
        with open(README, encoding="utf-8") as source:
            text = source.read().replace("```", "")
        held = doctest.DocTestParser().get_doctest(text, {}, "readme", None, 0)
        said = []
        told = doctest.DocTestRunner(verbose=False).run(held, out=said.append)
        self.assertEqual(told.failed, 0, "".join(said))
        self.assertTrue(told.attempted > 0)
