from common import BIG, WRONG, Case, finite_lots, some_grids, some_lots, some_rows, some_tables
from keptbowls.errors import InvalidSort, InvalidThing
from keptbowls.forms import Form, sum_form
from keptbowls.lots import Lot
from keptbowls.squares import squares
from keptbowls.tables import Table, idle
from keptbowls.texts import is_of, sorts, written

SORTS = ["row", "table", "form", "word", "lot", "poly", "squares"]
SIX, FLIP = Table([[0, -1], [1, 1]]), Table([[0, 1], [1, 0]])
# Values of each sort, and their written forms.
KNOWN = {
    "row": [((1, -2), "row 1,-2\n"), ([0], "row 0\n"), ((0, 0, 0), "row 0,0,0\n"), ([BIG, -BIG], f"row {BIG},-{BIG}\n"), ([10, 20, 30], "row 10,20,30\n")],
    "table": [(SIX, "table 0,-1;1,1\n"), (Table([[-1]]), "table -1\n"), (idle(3), "table 1,0,0;0,1,0;0,0,1\n"),
              (Table([[1, BIG], [0, -1]]), f"table 1,{BIG};0,-1\n")],
    "form": [(Form([[2, 1], [1, 2]]), "form 2,1;1,2\n"), (Form([[0]]), "form 0\n"), (Form([[-BIG]]), f"form -{BIG}\n"),
             (sum_form(3).times(-3), "form -3,0,0;0,-3,0;0,0,-3\n")],
    "word": [([1, -2, 1], "word 1.-2.1\n"), ([], "word -\n"), ((), "word -\n"), ((4,), "word 4\n"), ([-4], "word -4\n"),
             ([1, -1] * 30, "word " + ".".join(["1", "-1"] * 30) + "\n")],
    "lot": [(Lot([SIX]), "lot\nmaker 0,-1;1,1\n"), (Lot([SIX, FLIP]), "lot\nmaker 0,-1;1,1\nmaker 0,1;1,0\n"),
            (Lot([idle(1)] * 4), "lot\n" + "maker 1\n" * 4), (Lot([Table([[1, 1], [0, 1]])]), "lot\nmaker 1,1;0,1\n"),
            (Lot([idle(3), idle(3)]), "lot\n" + "maker 1,0,0;0,1,0;0,0,1\n" * 2)],
    "poly": [({}, "poly\n"), ({(2, 0): 1, (1, 1): -3}, "poly\nproduct 1,1 -3\nproduct 2,0 1\n"), ({(6,): BIG, (0,): -1}, f"poly\nproduct 0 -1\nproduct 6 {BIG}\n"),
             ({(2, 0, 1): 7, (0, 2, 3): 10, (0, 0, 6): -10}, "poly\nproduct 0,0,6 -10\nproduct 0,2,3 10\nproduct 2,0,1 7\n")],
    "squares": [([(2, (2, 1)), (6, (0, 3))], "squares\nsquare 2 2,1\nsquare 6 0,3\n"), (((1, [-1]),), "squares\nsquare 1 -1\n"),
                ([(BIG, [1, 0, -5]), (1, (0, -2, 7)), (3, (0, 0, BIG))], f"squares\nsquare {BIG} 1,0,-5\nsquare 1 0,-2,7\nsquare 3 0,0,{BIG}\n")],
}
# Of each sort values that are none of it, beside those of WRONG.
NONE = {
    "row": [[], (), [1, 2, 3, 4], [True], [1, False], (1, None), [[1]], ["1"], 1, idle(1)],
    "table": [SIX.rows, [[1]], sum_form(2), Lot([SIX]), 1, [SIX], Table],
    "form": [SIX, ((2, 1), (1, 2)), [sum_form(2)], 0, Form],
    "word": [[0], [5], [-5], [1, True], [True], [1] * 61, (1,) * 61, [[1]], ["1"], 1, idle(1), [None], [1, 0], (1, -2, 5)],
    "lot": [[SIX], SIX, (SIX, FLIP), 1, Lot],
    "poly": [{(1, 0): 0}, {(1, 0): True}, {(1, 0): 1, (1,): 1}, {(): 1}, {(0, 0, 0, 0): 1}, {(7,): 1}, {(3, 4): 1}, {(-1, 1): 1}, {(True, 0): 1},
             {1: 1}, {"1": 1}, {(1, 0): "1"}, {(1, 0): None}, [(1, 0)], [], 0, {(1, 1): 1, (2, 2, 2): 1}, {(1, 1): 1, (0, 0): False}],
    "squares": [[], (), [(1, (1, 0))], [(1, (1,)), (1, (1,))], [(2, (0, 1)), (6, (0, 3))], [(2, (2, 1)), (6, (1, 3))], [(2, (2, 1)), (6, (0, 0))],
                [(0, (1,))], [(-1, (1,))], [(True, (1,))], [(1, (True,))], [[1, (1,)]], [(1, (1,), 1)], [(1,)], [(1, 1)], [(1, ())], [1], [None],
                [(1, (1, 0, 0, 0)), (1, (0, 1, 0, 0)), (1, (0, 0, 1, 0)), (1, (0, 0, 0, 1))], [(1, (1, 0)), (1, (0, 1)), (1, (0, 0))], 1, sum_form(1),
                [("1", (1,))], {1: (1,)}],
}
WRONG_SORTS = WRONG + [0, 1, "", "Row", "rows", "row ", " row", "row\n", "tables", "Table", "square", "product", "maker", "words", "-",
                       ["row"], ("row",), ["row", "table"], idle(1)]


class Sorts(Case):
    def test_sorts(self):
        self.assertEqual(sorts(), SORTS)
        told = sorts()
        told.append("more")
        self.assertEqual(sorts(), SORTS)

    def test_is_of(self):
        for sort in SORTS:
            for value, _ in KNOWN[sort]:
                self.assertIs(self.leaves(is_of, sort, value), True)
            for value in NONE[sort] + [value for value in WRONG if not (sort == "poly" and value == {})]:
                self.assertIs(is_of(sort, value), False)
        self.assertIs(is_of(sort="row", value=[1, True]), False)

    def test_values_of_other_sorts(self):
        for sort in SORTS:
            for other in SORTS:
                for value, _ in KNOWN[other]:
                    # A list of integers may be both a row and a word.
                    if other != sort and {sort, other} != {"row", "word"}:
                        self.assertIs(is_of(sort, value), False)
                        self.fails(InvalidThing, written, sort, value, value=value)
        self.assertEqual([is_of("row", [1, -2]), is_of("word", [1, -2]), is_of("row", [5]), is_of("word", [5]), is_of("row", [])],
                         [True, True, True, False, False])

    def test_more_values(self):
        for size in (1, 2, 3):
            for table, rows, row in zip(some_tables(size, 5), some_grids(size, 5), some_rows(size, 5)):
                self.assertEqual([is_of("table", table), is_of("form", Form(rows)), is_of("row", row)], [True] * 3)
        for lot, _ in some_lots():
            self.assertIs(is_of("lot", lot), True)
        for size in (1, 2, 3):
            self.assertIs(is_of("squares", squares(sum_form(size))), True)

    def test_wrong_sorts(self):
        self.fails_for_all(InvalidSort, lambda sort: is_of(sort, (1,)), WRONG_SORTS)
        self.fails_for_all(InvalidSort, lambda sort: written(sort, None), WRONG_SORTS)


class Written(Case):
    def test_known(self):
        for sort in SORTS:
            for value, text in KNOWN[sort]:
                told = self.leaves(written, sort, value)
                self.assertEqual(told, text)
                self.assertIs(type(told), str)
        self.assertEqual(written(sort="table", value=SIX), "table 0,-1;1,1\n")

    def test_sequence_of_products(self):
        one, other = {(0, 1): 1, (1, 0): 2, (0, 0): 3}, {(1, 0): 2, (0, 0): 3, (0, 1): 1}
        self.assertEqual(written("poly", one), written("poly", other))
        self.assertEqual(written("poly", {(1, 0): 5, (0, 6): 1}), "poly\nproduct 0,6 1\nproduct 1,0 5\n")

    def test_lines(self):
        for lot in finite_lots():
            text = written("lot", lot)
            self.assertEqual(text.split("\n")[0], "lot")
            self.assertEqual(text.count("\nmaker "), len(lot.makers()))
            self.assertTrue(text.endswith("\n") and "  " not in text and " \n" not in text)

    def test_wrong(self):
        for sort in SORTS:
            self.fails_for_all(InvalidThing, lambda value: written(sort, value), NONE[sort])
            self.fails_for_all(InvalidThing, lambda value: written(sort, value), [value for value in WRONG if value != {}])
