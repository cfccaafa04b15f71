from unittest.mock import patch

from common import BIG, NO_BOWLS, WRONG, Case, by_hand, endless_lots, finite_lots, led_by_hand, some_bowls, some_grids
from common import some_tables, worth_by_hand
from keptbowls.claims import contrary, is_claim, is_paper_of, is_true, paper_of, words
from keptbowls.counts import unlike_worth, worth_counts
from keptbowls.errors import InvalidClaim, TooMany
from keptbowls.forms import Form, sum_form
from keptbowls.keepers import keepers
from keptbowls.kept import keeps
from keptbowls.leads import is_lead, leads
from keptbowls.lots import Lot
from keptbowls.orders import order, rest_order
from keptbowls.squares import squares
from keptbowls.tables import Table, idle
from keptbowls.verdicts import kept_bowl

LINES = [("finite", "endless"), ("bowl", "pit"), ("keeps", "breaks"), ("led", "unlike"), ("member", "outside"), ("home", "never")]
STEP, SLANT, FLIP = Table([[0, -1], [1, 1]]), Table([[1, 1], [0, 1]]), Table([[0, 1], [1, 0]])
HEXAGON, SKEW = Form([[2, 1], [1, 2]]), Form([[5, 7], [7, 10]])
LOT, WIDE = Lot([STEP, FLIP]), Lot([SLANT])


def diagonal(*numbers):
    return Form([[number if i == j else 0 for j in range(len(numbers))] for i, number in enumerate(numbers)])


FAR = diagonal(1, 199 ** 2)


def some_claims():
    """Claims with the first words of lines, and whether these are true."""
    for lot in finite_lots():
        yield ("finite", lot), True
        for table in lot.members()[::5]:
            yield ("member", lot, table), True
        for table in some_tables(lot.size, 4, seed=111):
            yield ("member", lot, table), table.rows in [one.rows for one in lot.members()]
    for lot in endless_lots():
        yield ("finite", lot), False
    for size in (1, 2, 3):
        for rows in some_grids(size, 12, seed=112) + some_bowls(size, 5, seed=113):
            form = Form(rows)
            yield ("bowl", form), all(number > 0 for number in corners_of(rows))
            for table in some_tables(size, 3, seed=114, greatest=1) + [idle(size)]:
                yield ("keeps", table, form), form.led(table) == form
        for table in some_tables(size, 25, seed=115, greatest=1):
            yield ("home", table), table.power(12) == idle(size)
        known = [Form(rows) for rows in some_bowls(size, 8, seed=116, greatest=1)]
        for bowl, goal, table in zip(known, known[1:], some_tables(size, 8, seed=117)):
            yield ("led", bowl, bowl.led(table)), True
            yield ("led", bowl, goal), leads(bowl, goal) != []
    for rows in NO_BOWLS:
        yield ("bowl", Form(rows)), False
    yield ("led", HEXAGON, SKEW), False
    for keeper in keepers(HEXAGON):
        yield ("keeps", keeper, HEXAGON), True


def corners_of(rows):
    return [by_hand([row[:many] for row in rows[:many]]) for many in range(1, len(rows) + 1)]


class Claims(Case):
    def test_words(self):
        self.assertEqual(words(), LINES)
        told = words()
        self.assertEqual({type(one) for one in told}, {tuple})
        told.pop()
        self.assertEqual(words(), LINES)

    def test_truths(self):
        seen = set()
        for claim, true in some_claims():
            other = dict(LINES)[claim[0]]
            against = (other,) + claim[1:]
            seen |= {(claim[0], true), (other, not true)}
            self.assertEqual([is_claim(claim), is_claim(against)], [True, True])
            self.assertEqual([self.leaves(is_true, claim), self.leaves(is_true, against)], [true, not true])
            self.assertEqual([self.leaves(contrary, claim), self.leaves(contrary, against)], [against, claim])
            self.assertIs(type(contrary(claim)), tuple)
        self.assertEqual(len(seen), 24)
        self.assertIs(is_true(claim=("home", STEP)), True)
        self.assertEqual(contrary(claim=("keeps", STEP, HEXAGON)), ("breaks", STEP, HEXAGON))

    def test_papers_of_true_claims_alone(self):
        for claim, true in some_claims():
            against = contrary(claim)
            right, wrong = (claim, against) if true else (against, claim)
            paper = self.leaves(paper_of, right)
            self.assertIsNotNone(paper)
            self.assertIs(self.leaves(is_paper_of, right, paper), True)
            self.assertIs(is_paper_of(wrong, paper), False)
            self.assertIsNone(paper_of(wrong))
            self.assertEqual(paper_of(right), paper)
            if isinstance(paper, list):
                self.assertIs(is_paper_of(right, tuple(paper)), True)
                paper.append(None)
                self.assertIs(is_paper_of(right, paper), False)
                self.assertIs(is_paper_of(right, paper_of(right)), True)

    def test_values_that_are_no_papers(self):
        seen = {}
        for claim, true in some_claims():
            if seen.setdefault((claim[0], true, claim[1].size), 0) < 2:
                seen[(claim[0], true, claim[1].size)] += 1
                size = claim[1].size
                for one in (claim, contrary(claim)):
                    values = WRONG + [[None], (None,), [[None]] * 13, ([1], None), [True] * size, [(1, (True,))], Lot([idle(size)]), -1, 0]
                    for value in values:
                        # A row whose worth is another one, or a word, may stand among the values.
                        self.assertIs(is_paper_of(one, value), False)

    def test_no_claims(self):
        three, one_row = idle(3), Form([[5]])
        values = [(), ("finite",), ("finite", LOT, LOT), ("finite", LOT, STEP), ("finite", STEP), ("finite", [STEP]), ("finite", None), ["finite", LOT],
                  ("Finite", LOT), ("finite ", LOT), ("", LOT), (None, LOT), (True, LOT), (5, LOT), (LOT, "finite"), (("finite",), LOT), (["finite"], LOT),
                  ("endless",), ("endless", HEXAGON), ("bowl",), ("bowl", STEP), ("bowl", HEXAGON.rows), ("bowl", HEXAGON, HEXAGON), ("pit", LOT),
                  ("pit", None), ("keeps", STEP), ("keeps", HEXAGON, STEP), ("keeps", STEP, HEXAGON, 1), ("keeps", three, HEXAGON),
                  ("breaks", STEP, sum_form(3)), ("breaks", STEP, one_row), ("breaks", STEP, STEP), ("keeps", LOT, HEXAGON),
                  ("led", HEXAGON), ("led", HEXAGON, STEP), ("led", HEXAGON, sum_form(3)), ("unlike", sum_form(1), HEXAGON), ("led", HEXAGON, Form([[1, 2], [2, 1]])),
                  ("unlike", Form([[0]]), one_row), ("unlike", one_row, Form([[-5]])), ("led", HEXAGON, SKEW, SKEW), ("led", FAR, FAR), ("unlike", FAR, HEXAGON),
                  ("led", diagonal(1, 1, 200), diagonal(1, 1, 200)),
                  ("member", LOT), ("member", LOT, three), ("outside", LOT, idle(1)), ("member", WIDE, SLANT), ("outside", WIDE, STEP), ("member", STEP, LOT),
                  ("member", LOT, STEP.rows), ("outside", LOT, HEXAGON), ("home",), ("home", LOT), ("home", STEP, STEP), ("never", HEXAGON), ("never", STEP, 3),
                  ("never", STEP.rows), ("order", STEP), ("lead", HEXAGON, SKEW), ("is_finite", LOT), ("row", (1,)), "finite", ("finite", LOT, None)]
        for value in WRONG + [0, 1, LOT, STEP, HEXAGON] + values:
            self.assertIs(is_claim(value), False)
            for call in (is_true, contrary, paper_of, lambda claim: is_paper_of(claim, None)):
                self.fails(InvalidClaim, call, value, value=value)
        # The rows of the goal do not count.
        self.assertEqual([is_claim(("led", HEXAGON, FAR)), is_true(("unlike", HEXAGON, FAR)), is_claim(("unlike", FAR, FAR))], [True, True, False])
        self.assertIs(is_claim(value=("finite", LOT)), True)


class Papers(Case):
    def test_finite_and_endless(self):
        self.assertEqual(paper_of(claim=("finite", LOT)), kept_bowl(LOT))
        self.assertEqual([is_paper_of(("finite", LOT), Form(rows)) for rows in ([[4, 2], [2, 4]], [[1, 0], [0, 1]], [[-2, -1], [-1, -2]])], [True, False, False])
        for value, right in ((([1], 3), True), (([1], 2), False), (([1, 1], 99), True), (([1], 101), False), (([1], 0), False), ([[1], 3], False),
                             (([1], True), False), (([], 3), False), ([[1] * many for many in range(13)], True), ([[1] * many for many in range(12)], False),
                             (tuple((1,) * many for many in range(13)), True), ([[1]] * 13, False)):
            self.assertIs(is_paper_of(claim=("endless", WIDE), value=value), right)
            self.assertIs(is_paper_of(("finite", WIDE), value), False)
            self.assertIs(is_paper_of(("endless", LOT), value), False)

    def test_bowls_and_pits(self):
        self.assertIs(is_paper_of(("bowl", HEXAGON), [(2, (2, 1)), (6, (0, 3))]), True)
        self.assertIs(is_paper_of(("bowl", HEXAGON), [(2, [2, 1]), (6, [0, 3])]), True)
        for value in ([(2, (2, 1)), (2, (0, 3))], [(2, (2, 1))], [(2, (2, 1)), [6, (0, 3)]], [(6, (0, 3)), (2, (2, 1))], squares(SKEW)):
            self.assertIs(is_paper_of(("bowl", HEXAGON), value), False)
        hole = Form([[1, 2], [2, 1]])
        for value, right in (((2, -1), True), ([1, -1], True), ((0, 0), False), ((1, 0), False), ((1, -1, 0), False), ((True, -1), False)):
            self.assertIs(is_paper_of(("pit", hole), value), right)
            self.assertIs(is_paper_of(("bowl", hole), value), False)
            self.assertIs(is_paper_of(("pit", HEXAGON), value), False)

    def test_keeps(self):
        for size in (1, 2, 3):
            for rows in some_bowls(size, 4, seed=118, greatest=1):
                form = Form(rows)
                for table in keepers(form)[::3]:
                    told = paper_of(("keeps", table, form))
                    self.assertEqual(told, [table.lead(row) for row in idle(size).rows])
                    self.assertEqual([type(told), type(told[0])], [list, tuple])
                    self.assertTrue(all(form.between(told[i], told[j]) == rows[i][j] for i in range(size) for j in range(size)))
                    for value in (told, tuple(told), [list(row) for row in told]):
                        self.assertIs(is_paper_of(("keeps", table, form), value), True)
                    for at in range(size):
                        for place in range(size):
                            spoilt = [list(row) for row in told]
                            spoilt[at][place] += 1
                            self.assertIs(is_paper_of(("keeps", table, form), spoilt), False)
                    for value in (told[1:], told + told[:1], [row + (0,) for row in told], [None] * size, [tuple(map(bool, row)) for row in told]):
                        self.assertIs(is_paper_of(("keeps", table, form), value), False)
        # The other sequence, and another keeper's rows.
        self.assertIs(is_paper_of(("keeps", STEP, HEXAGON), [(-1, 1), (0, 1)]), False)
        self.assertIs(is_paper_of(("keeps", STEP, HEXAGON), [(1, 0), (0, 1)]), False)
        # Its rows, where it does not keep the form.
        self.assertIs(is_paper_of(("keeps", SLANT, HEXAGON), [(1, 0), (1, 1)]), False)

    def test_breaks(self):
        for size in (1, 2, 3):
            for rows in some_grids(size, 12, seed=119):
                for table in some_tables(size, 4, seed=120, greatest=1):
                    form, claim = Form(rows), ("breaks", table, Form(rows))
                    told = paper_of(claim)
                    self.assertIs(told is None, keeps(table, form))
                    if told is not None:
                        self.assertIs(type(told), tuple)
                        self.assertNotEqual(worth_by_hand(rows, told), worth_by_hand(rows, led_by_hand(table.rows, told)))
                    for row in ((1,) * size, (2, -1, 3)[:size], (0,) * size, [1] + [0] * (size - 1)):
                        right = worth_by_hand(rows, row) != worth_by_hand(rows, led_by_hand(table.rows, row))
                        self.assertIs(is_paper_of(claim, row), right)
                        self.assertIs(is_paper_of(claim, list(row)), right)
                    for value in ([1] * (size + 1), [True] * size, [None] * size, 5):
                        self.assertIs(is_paper_of(claim, value), False)
        # Only two rows together break what each of them keeps.
        turn = Table([[1, 0], [0, -1]])
        self.assertEqual(Form([[1, 1], [1, 5]]).worth(paper_of(("breaks", turn, Form([[1, 1], [1, 5]])))) in (4, 8), True)

    def test_led(self):
        table = Table([[1, 1], [2, 3]])
        for value, right in ((table, True), (idle(2), False), (table.rows, False), (table * SLANT, False), (Table([[-1, -1], [-2, -3]]), True)):
            self.assertIs(is_paper_of(("led", sum_form(2), SKEW), value), right)
            self.assertIs(is_paper_of(("unlike", sum_form(2), SKEW), value), False)
        self.assertIs(is_lead(sum_form(2), SKEW, paper_of(("led", sum_form(2), SKEW))), True)

    def test_member_and_outside(self):
        for value, right in (([1, 1], True), ((1, 1), True), ([1], False), ([], False), ([-1, -1, -1, -1], True), ([2, 2, 1, 1], True), ([3], False),
                             ([1] * 62, False), ([1] * 56, True), ([True, True], False), ([1, 1, 0], False)):
            self.assertIs(is_paper_of(("member", LOT, STEP * STEP), value), right)
            self.assertIs(is_paper_of(("outside", LOT, STEP * STEP), value), False)
            self.assertIs(is_paper_of(("member", LOT, SLANT), value), False)
        members = LOT.members()
        self.assertEqual(paper_of(("outside", LOT, SLANT)), members)
        for value, right in ((members, True), (members[::-1], True), (tuple(members[3:] + members[:3]), True), (members[1:], False), (members + members[:1], False),
                             (members[:-1] + [SLANT], False), (members[:-1] + members[:1], False), ([one.rows for one in members], False),
                             (members[:-1] + [idle(3)], False), ([], False), (members[:-1] + [None], False)):
            self.assertIs(is_paper_of(("outside", LOT, SLANT), value), right)
            self.assertIs(is_paper_of(("outside", LOT, STEP), value), False)
        self.assertEqual(paper_of(("member", LOT, idle(2))), [])

    def test_home_and_never(self):
        for table in (STEP, FLIP, idle(2), idle(1), Table([[0, 0, 1], [1, 0, 0], [0, 1, 0]])):
            often = order(table)
            self.assertIs(is_paper_of(("home", table), paper_of(("home", table))), True)
            for value in (-often, 0, often, often + 1, 2 * often, often * BIG, 10 ** 29, True):
                self.assertIs(is_paper_of(("home", table), value), value is not True and value > 0 and value % often == 0)
                self.assertIs(is_paper_of(("never", table), value), False)
        for table in (SLANT, Table([[2, 1], [1, 1]]), Table([[0, 0, 1], [1, 0, 0], [0, 1, 1]]), Table([[1, 3], [0, 1]])):
            often = rest_order(table)
            self.assertIs(is_paper_of(("never", table), paper_of(("never", table))), True)
            for value in (-often, 0, 1, often, often + 1, 2 * often, 99, 100, 101, often * 101, BIG, True):
                self.assertIs(is_paper_of(("never", table), value), value is not True and 0 < value < 101 and value % often == 0)
                self.assertIs(is_paper_of(("home", table), value), False)


class UnlikePapers(Case):
    def test_worths(self):
        known = [Form(rows) for rows in some_bowls(2, 12, seed=121, greatest=2)] + [HEXAGON, SKEW]
        for bowl in known:
            for goal in known:
                claim, least = ("unlike", bowl, goal), unlike_worth(bowl, goal, 100)
                if is_true(claim):
                    told = paper_of(claim)
                    self.assertIs(type(told), int)
                    self.assertTrue(least <= told)
                    self.assertNotEqual(worth_counts(bowl, told)[told], worth_counts(goal, told)[told])
                    self.assertEqual([is_paper_of(claim, value) for value in (least, least - 1, True, 401, None)], [True, False, False, False, False])
                else:
                    self.assertIsNone(least)
                    self.assertIs(is_paper_of(claim, 5), False)
        self.assertEqual([is_paper_of(("unlike", HEXAGON, SKEW), value) for value in (0, 1, 3, 400)],
                         [False, True, False, worth_counts(HEXAGON, 400)[400] != worth_counts(SKEW, 400)[400]])

    def test_a_late_worth(self):
        for one, other, least in ((400, 401, 400), (399, 500, 399), (256, 257, 256), (255, 256, 255), (1, 2, 1), (3, 12, 3)):
            claim = ("unlike", Form([[one]]), Form([[other]]))
            told = paper_of(claim)
            self.assertIs(is_paper_of(claim, told), True)
            self.assertTrue(told >= least)
        for one, other in ((401, 402), (500, BIG), (BIG, 401)):
            claim = ("unlike", Form([[one]]), Form([[other]]))
            self.assertIs(is_true(claim), True)
            self.fails(TooMany, paper_of, claim, what="worth", limit=400)
            self.assertEqual([is_paper_of(claim, value) for value in (0, 400, 401, one)], [False] * 4)
            self.assertIsNone(paper_of(contrary(claim)))

    def test_more_rows_than_are_let(self):
        # No bowls of which one may ask are known that have so many rows ahead of an unlike worth: so fewer are let here.
        for one, other, least, rows in (([[1]], [[4]], 1, 3), ([[4]], [[1]], 1, 3), ([[2, 1], [1, 2]], [[2, 1], [1, 3]], 2, 7),
                                        ([[1, 0], [0, 9]], [[1, 0], [0, 10]], 9, 9)):
            claim = ("unlike", Form(one), Form(other))
            with patch("keptbowls.claims.MOST_ROWS", rows):
                self.assertEqual(paper_of(claim), least)
            with patch("keptbowls.claims.MOST_ROWS", rows - 1):
                self.fails(TooMany, paper_of, claim, what="rows", limit=rows - 1)

    def test_too_many_rows(self):
        # All worths below 66 have like many rows.
        bowl, goal = diagonal(1, 1, 66), diagonal(1, 1, 67)
        self.assertIs(is_true(("unlike", bowl, goal)), True)
        self.assertEqual([paper_of(("unlike", bowl, goal)), is_paper_of(("unlike", bowl, goal), 66)], [66, True])
        bowl, goal = diagonal(1, 2, 2), diagonal(1, 1, 4)
        self.assertEqual(is_paper_of(("unlike", bowl, goal), paper_of(("unlike", bowl, goal))), True)
        for value in (399, 400):
            self.fails(TooMany, is_paper_of, ("unlike", bowl, goal), value, what="rows", limit=2000)
            self.assertIs(is_paper_of(("led", bowl, goal), value), False)
            self.fails(TooMany, is_paper_of, ("unlike", bowl, bowl), value, what="rows", limit=2000)
        self.assertIs(is_paper_of(("unlike", bowl, bowl), 401), False)
        self.assertIsNone(paper_of(("unlike", bowl, bowl)))
