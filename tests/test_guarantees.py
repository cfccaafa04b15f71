"""The guarantees of the whole program: what several files tell of one lot must fit together."""

from common import ENDLESS, PLANE, Case, endless_lots, finite_lots, lots_turned, rows_of_lot, some_bowls, some_grids, some_lots, some_tables
from keptbowls.bowls import is_bowl, is_pit, pit
from keptbowls.claims import contrary, is_paper_of, is_true, paper_of
from keptbowls.degrees import degree_counts, solved_count
from keptbowls.desk import Desk
from keptbowls.forms import Form, sum_form
from keptbowls.keepers import is_keeper, keepers, keepers_lot
from keptbowls.kept import keeps, kept_forms, kept_rank, kept_rows
from keptbowls.leads import lead, least_form
from keptbowls.lots import Lot
from keptbowls.makers import made_by, some_makers
from keptbowls.means import mean_forms, mean_rounds, mean_trace
from keptbowls.orders import order
from keptbowls.parts import beside_lots, is_within, same_members, turned_lot
from keptbowls.plane import is_kind_lead, kind_lead, plane_kind, told_lot
from keptbowls.readers import read
from keptbowls.rounds import rest_rounds, round_of
from keptbowls.squares import is_squares, squares
from keptbowls.tables import Table, idle, rests_alike
from keptbowls.texts import written
from keptbowls.verdicts import endless_paper, is_bowl_paper, is_endless_paper, kept_bowl, rest_members
from keptbowls.words import words_to

MOST = {1: 2, 2: 12, 3: 48}


def mixed_lots():
    """Lots that are made, turned, put beside one another, finite ones and endless ones."""
    lots = [lot for lot, _ in some_lots()]
    yield from lots
    for lot in lots:
        yield from list(lots_turned(lot, 1, seed=131))[1:]
    line, plane = [lot for lot in lots if lot.size == 1], [lot for lot in lots if lot.size == 2]
    for lot in plane[::2] + plane[-3:]:
        for other in line[:2]:
            yield beside_lots(lot, other) if len(lot.makers()) % 2 else beside_lots(other, lot)
    yield beside_lots(line[1], line[1])
    for size in (2, 3):
        tables = some_tables(size, 24, seed=132, greatest=1)
        for at in range(0, 24, 2):
            yield Lot(tables[at:at + 1 + at % 3])


class JustOnePaper(Case):
    def test_papers(self):
        found = []
        for lot in mixed_lots():
            found.append(lot.is_finite)
            if lot.is_finite:
                paper = kept_bowl(lot)
                self.assertIsNone(endless_paper(lot))
                self.assertTrue(all(rests_alike(one, idle(lot.size), 3) is (one == idle(lot.size)) for one in lot.members()))
                self.assertEqual(len(rest_members(lot, 3)), lot.total)
            else:
                paper = endless_paper(lot)
                self.assertFalse(any(is_bowl(form) for form in kept_forms(lot.makers())))
            self.assertEqual([is_bowl_paper(lot, paper), is_endless_paper(lot, paper)], [lot.is_finite, not lot.is_finite])
            claim = ("finite" if lot.is_finite else "endless", lot)
            self.assertEqual([is_true(claim), is_true(contrary(claim))], [True, False])
            self.assertEqual([is_paper_of(claim, paper), is_paper_of(contrary(claim), paper), paper_of(contrary(claim))], [True, False, None])
            self.assertIs(is_paper_of(claim, paper_of(claim)), True)
        self.assertTrue(found.count(True) > 50 and found.count(False) > 30)

    def test_no_product_of_an_endless_lot_has_an_order_and_rests(self):
        for lot in mixed_lots():
            slants = [one for one in words_to(lot.makers(), 2) if rests_alike(one.power(order(one) or 24), idle(lot.size), 3) and order(one) is None]
            self.assertFalse(lot.is_finite and slants)


class FortyNine(Case):
    def test_counts(self):
        for lot in mixed_lots():
            many = len(rows_of_lot(lot))
            self.assertIs(lot.is_finite, many <= MOST[lot.size])
            self.assertEqual(lot.total, many if lot.is_finite else None)
            if lot.is_finite:
                self.assertEqual(MOST[3] % lot.total, 0)
            else:
                self.assertEqual(len(endless_paper(lot)), MOST[lot.size] + 1)


class Bowls(Case):
    def test_squares_or_a_pit(self):
        for size in (1, 2, 3):
            for rows in some_grids(size, 60, seed=133) + some_bowls(size, 20, seed=134):
                form = Form(rows)
                told, hole = squares(form), pit(form)
                self.assertEqual([told is None, hole is None], [not is_bowl(form), is_bowl(form)])
                self.assertEqual([is_squares(form, told), is_pit(form, hole)], [is_bowl(form), not is_bowl(form)])
                table = some_tables(size, 1, seed=135)[0]
                self.assertIs(is_bowl(form.led(table)), is_bowl(form))
                if hole is not None:
                    self.assertIs(is_pit(form.led(table), table.undone().lead(hole)), True)


class Keepers(Case):
    def test_keepers_are_a_finite_lot(self):
        for size in (1, 2, 3):
            for rows, table in zip(some_bowls(size, 12, seed=136, greatest=1), some_tables(size, 12, seed=137)):
                bowl, goal = Form(rows), Form(rows).led(table)
                told, lot = keepers(bowl), keepers_lot(bowl)
                self.assertEqual([lot.members(), lot.is_finite], [told, True])
                self.assertIs(is_bowl_paper(lot, bowl), True)
                self.assertTrue(same_members(turned_lot(keepers_lot(goal), lead(goal, bowl).undone()), lot))
                for one in some_tables(size, 10, seed=138, greatest=1):
                    self.assertEqual([is_keeper(bowl, one), one in told], [keeps(one, bowl)] * 2)

    def test_each_finite_lot_is_within_the_keepers_of_its_bowl(self):
        for lot in mixed_lots():
            if lot.is_finite:
                bowl = kept_bowl(lot)
                self.assertTrue(is_within(lot, keepers_lot(bowl)))
                if lot.total <= 16:
                    self.assertEqual(made_by(lot, some_makers(lot) or [idle(lot.size)]).members(), lot.members())


class WhatStays(Case):
    def test_counted_two_ways(self):
        for lot in mixed_lots():
            if lot.is_finite:
                self.assertEqual(mean_trace(lot), len(kept_rows(lot.makers())))
                self.assertEqual(mean_forms(lot), kept_rank(lot.makers()))
                self.assertEqual(mean_rounds(lot, 3), rest_rounds(lot, 3))
                told = degree_counts(lot, 3)
                self.assertEqual([solved_count(lot, degree) for degree in range(4)], told)

    def test_makers_or_members_alike(self):
        for lot in finite_lots(12):
            other = Lot(lot.members()[:4]) if lot.total <= 4 else Lot((lot.members()[::-1] * 2)[1:5])
            if other.total == lot.total:
                self.assertEqual([degree_counts(other, 8), rest_rounds(other, 4), kept_bowl(other)], [degree_counts(lot, 8), rest_rounds(lot, 4), kept_bowl(lot)])
                self.assertEqual(round_of(other, (3,) * lot.size), round_of(lot, (3,) * lot.size))


class Kinds(Case):
    def test_one_kind_each(self):
        for lot in mixed_lots():
            if lot.size == 2 and lot.is_finite:
                kind, table = plane_kind(lot), kind_lead(lot)
                for other in PLANE:
                    self.assertIs(same_members(turned_lot(lot, table), told_lot(other)), other == kind)
                self.assertIs(is_kind_lead(lot, table), True)
                self.assertEqual(least_form(kept_bowl(turned_lot(lot, table))), least_form(kept_bowl(told_lot(kind))))


class Throughout(Case):
    def test_texts_and_desk(self):
        for lot in mixed_lots():
            self.assertEqual(read(written("lot", lot)), ("lot", lot))
            if any(abs(number) >= 10 ** 30 for maker in lot.makers() for row in maker.rows for number in row):
                # More figures than commands tell.
                continue
            desk = Desk()
            for at, maker in enumerate(lot.makers()):
                desk.do(f"table a{at} {written('table', maker)[len('table '):-1]}")
            names = ",".join(f"a{at}" for at in range(len(lot.makers())))
            self.assertEqual(desk.do(f"lot l {names}"), "-")
            self.assertEqual(desk["l"], lot)
            self.assertEqual(desk.do("count l"), "endless" if lot.total is None else str(lot.total))
            self.assertEqual(desk.do("claim f finite l"), f"f {'true' if lot.is_finite else 'false'}")
            desk.attach("f", kept_bowl(lot) if lot.is_finite else endless_paper(lot))
            self.assertIs(desk.fits("f"), True)
            if lot.is_finite:
                desk.do("bowl g l")
                self.assertEqual([read("form " + desk.do("shown g")[len("form "):] + "\n")[1], desk["g"]], [kept_bowl(lot)] * 2)
                self.assertEqual(desk.do("claim b bowl g"), "b true")
                self.assertEqual(desk.do("claim k keeps a0 g"), "k true")
                self.assertEqual(desk.do("claim m member l a0"), "m true")
                self.assertEqual(desk.do("claim h home a0"), "h true")
                self.assertEqual([desk.do("rounds l 2"), desk.do("degrees l 2")], [str(rest_rounds(lot, 2)), " ".join(str(one) for one in degree_counts(lot, 2))])

    def test_beside_one_another(self):
        line, plane = [lot for lot, _ in some_lots() if lot.size == 1], [lot for lot, _ in some_lots() if lot.size == 2]
        for one in line[:2]:
            for other in plane:
                both = beside_lots(one, other)
                self.assertIs(both.is_finite, other.is_finite)
                if other.is_finite:
                    self.assertEqual(both.total, one.total * other.total)
                    self.assertEqual(mean_trace(both), mean_trace(one) + mean_trace(other))
                    self.assertEqual(is_bowl_paper(both, kept_bowl(both)), True)
                else:
                    self.assertIs(is_endless_paper(both, endless_paper(both)), True)
                    # A word that goes on for ever goes on beside another table, too.
                    self.assertIsNone(endless_paper(one))

    def test_there_are_endless_lots_of_tables_that_come_home(self):
        homely = [lot for lot in endless_lots() if all(order(maker) is not None for maker in lot.makers())]
        self.assertEqual([len(homely) > 3, len(ENDLESS) > 10], [True, True])
        for lot in homely:
            self.assertEqual([is_true(("finite", lot)), is_true(("home", lot.makers()[0]))], [False, True])
            self.assertEqual(kept_bowl(Lot(lot.makers()[:1])).led(lot.makers()[0]), kept_bowl(Lot(lot.makers()[:1])))
        self.assertEqual(Table([[1]]), idle(1))
        self.assertEqual(kept_bowl(Lot([idle(1)])), sum_form(1))
