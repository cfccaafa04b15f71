from common import WRONG, Case, endless_lots, finite_lots, grids_times, members_by_hand, some_tables, wrong_lots
from keptbowls.classes import classes, goes_together, middle, orders_of, turned_members
from keptbowls.errors import Endless, InvalidLot, InvalidMember
from keptbowls.forms import Form
from keptbowls.lots import Lot
from keptbowls.tables import Table, idle

TURN, FLIP = Table(((0, -1), (1, 0))), Table(((1, 0), (0, -1)))
SQUARE, FOUR = Lot([TURN, FLIP]), Lot([TURN])


def turned_by_hand(members, rows):
    """The sorted rows into which the members turn these."""
    unit = idle(len(rows)).rows
    back = {one: other for one in members for other in members if grids_times(one, other) == unit}
    return sorted({grids_times(grids_times(one, rows), back[one]) for one in members})


def order_by_hand(rows):
    reached, often = rows, 1
    while reached != idle(len(rows)).rows:
        reached, often = grids_times(reached, rows), often + 1
    return often


class TurnedMembers(Case):
    def test_by_hand(self):
        for lot in finite_lots():
            members = members_by_hand(lot.makers())
            for rows in members[::3]:
                told = self.leaves(turned_members, lot, Table(rows))
                self.assertEqual([one.rows for one in told], turned_by_hand(members, rows))
                self.assertEqual({type(one) for one in told}, {Table})
                self.assertEqual(lot.total % len(told), 0)
        self.assertEqual([one.rows for one in turned_members(lot=SQUARE, member=FLIP)], [((-1, 0), (0, 1)), ((1, 0), (0, -1))])
        self.assertEqual(turned_members(FOUR, TURN), [TURN])
        self.same_again(turned_members, SQUARE, TURN)

    def test_wrong(self):
        for member in (FLIP, None):
            self.fails_for_all(InvalidLot, lambda lot: turned_members(lot, member), wrong_lots())
        for lot in finite_lots():
            others = [table for table in some_tables(lot.size, 9) if table.rows not in members_by_hand(lot.makers())]
            self.fails_for_all(InvalidMember, lambda member: turned_members(lot, member),
                               WRONG + [1, idle(lot.size).rows, Form([[1]]), idle(lot.size % 3 + 1)] + others)
        for lot in endless_lots():
            for member in (idle(lot.size), lot.makers()[0], None, idle(lot.size % 3 + 1)):
                self.fails(Endless, turned_members, lot, member)


class Classes(Case):
    def test_by_hand(self):
        for lot in finite_lots():
            members = members_by_hand(lot.makers())
            told = self.leaves(classes, lot)
            known = sorted({tuple(turned_by_hand(members, rows)) for rows in members}) if len(members) < 30 else None
            rows = [[one.rows for one in one_class] for one_class in told]
            if known is not None:
                self.assertEqual(rows, [list(one) for one in known])
            self.assertEqual(rows, sorted(sorted(one) for one in rows))
            self.assertEqual(sorted(sum(rows, [])), members)
            self.assertEqual([turned_members(lot, one[0]) for one in told], told)
            self.assertEqual({type(one) for one in told}, {list})

    def test_known(self):
        self.assertEqual([len(one) for one in classes(lot=SQUARE)], [1, 2, 2, 2, 1])
        self.assertEqual(classes(Lot([Table([[-1]])])), [[Table([[-1]])], [Table([[1]])]])
        whole = [lot for lot in finite_lots() if lot.total == 48][0]
        self.assertEqual(sorted(len(one) for one in classes(whole)), [1, 1, 3, 3, 6, 6, 6, 6, 8, 8])
        self.same_again(classes, SQUARE)
        spoilt = classes(SQUARE)
        spoilt[1].clear()
        self.assertEqual([len(one) for one in classes(SQUARE)], [1, 2, 2, 2, 1])

    def test_turned_lots_have_as_many(self):
        for lot in finite_lots(16):
            for table in some_tables(lot.size, 2, seed=31):
                made = Lot([table * maker * table.undone() for maker in lot.makers()])
                self.assertEqual(sorted(len(one) for one in classes(made)), sorted(len(one) for one in classes(lot)))
                self.assertEqual([len(middle(made)), goes_together(made), orders_of(made)],
                                 [len(middle(lot)), goes_together(lot), orders_of(lot)])


class Middles(Case):
    def test_by_hand(self):
        for lot in finite_lots():
            members = members_by_hand(lot.makers())
            known = [one for one in members if all(grids_times(one, other) == grids_times(other, one) for other in members)]
            told = self.leaves(middle, lot)
            self.assertEqual([one.rows for one in told], known)
            self.assertIs(self.leaves(goes_together, lot), len(known) == len(members))
            self.assertEqual(told, [one[0] for one in classes(lot) if len(one) == 1])

    def test_known(self):
        self.assertEqual([one.rows for one in middle(lot=SQUARE)], [((-1, 0), (0, -1)), ((1, 0), (0, 1))])
        self.assertEqual([goes_together(lot=SQUARE), goes_together(FOUR)], [False, True])
        # The first maker goes together with both, the last two do not.
        self.assertIs(goes_together(Lot([idle(2), TURN, FLIP])), False)
        self.assertIs(goes_together(Lot([TURN, FLIP, idle(2)])), False)
        self.same_again(middle, SQUARE)


class Orders(Case):
    def test_by_hand(self):
        for lot in finite_lots():
            known = [order_by_hand(rows) for rows in members_by_hand(lot.makers())]
            told = self.leaves(orders_of, lot)
            self.assertIs(type(told), dict)
            self.assertEqual(list(told.items()), [(often, known.count(often)) for often in sorted(set(known))])
        self.assertEqual(list(orders_of(lot=SQUARE).items()), [(1, 1), (2, 5), (4, 2)])
        whole = [lot for lot in finite_lots() if lot.total == 48][0]
        self.assertEqual(list(orders_of(whole).items()), [(1, 1), (2, 19), (3, 8), (4, 12), (6, 8)])
        told = orders_of(SQUARE)
        told[1] = 5
        self.assertEqual(orders_of(SQUARE), {1: 1, 2: 5, 4: 2})


class Wrong(Case):
    def test_wrong(self):
        for call in (classes, middle, goes_together, orders_of):
            self.fails_for_all(InvalidLot, call, wrong_lots())
            for lot in endless_lots():
                self.fails(Endless, call, lot)
