from common import WRONG, Case, endless_lots, finite_lots, members_by_hand, some_lots, some_tables, wrong_lots
from keptbowls.errors import Endless, InvalidLot, InvalidTable, NotWithin, TooMany, UnlikeSizes
from keptbowls.forms import Form
from keptbowls.lots import Lot
from keptbowls.parts import beside_lots, is_within, same_members, shares, turned_lot
from keptbowls.tables import Table, beside, idle

TURN, FLIP, SLANT = Table(((0, -1), (1, 0))), Table(((1, 0), (0, -1))), Table([[1, 1], [0, 1]])
SQUARE, FOUR, WIDE = Lot([TURN, FLIP]), Lot([TURN]), Lot([SLANT])
LINE, POINT = Lot([Table([[-1]])]), Lot([Table([[1]])])


class Within(Case):
    def test_by_members(self):
        lots = finite_lots()
        for lot in lots:
            known = set(members_by_hand(lot.makers()))
            for other in lots:
                if other.size == lot.size:
                    others = set(members_by_hand(other.makers()))
                    self.assertIs(self.leaves(is_within, other, lot), others <= known)
                    self.assertIs(self.leaves(same_members, lot, other), others == known)
                    if others <= known:
                        self.assertEqual(lot.total % other.total, 0)

    def test_known(self):
        self.assertIs(is_within(sub=FOUR, lot=SQUARE), True)
        self.assertIs(is_within(SQUARE, FOUR), False)
        self.assertIs(same_members(lot=SQUARE, other_lot=Lot([FLIP, FLIP * TURN])), True)
        self.assertIs(same_members(SQUARE, FOUR), False)
        self.assertIs(same_members(FOUR, SQUARE), False)
        self.assertIs(same_members(FOUR, Lot([TURN.undone(), idle(2), TURN, TURN])), True)
        # As many members, but other ones.
        self.assertIs(same_members(FOUR, Lot([Table([[1, 0], [0, -1]]), Table([[-1, 0], [0, 1]])])), False)

    def test_wrong(self):
        for call in (same_members, is_within, shares):
            for other in (SQUARE, WIDE, LINE, None):
                self.fails_for_all(InvalidLot, lambda lot: call(lot, other), wrong_lots())
            for one in (SQUARE, WIDE, LINE):
                self.fails_for_all(InvalidLot, lambda lot: call(one, lot), wrong_lots())
            for one, other in ((SQUARE, LINE), (LINE, SQUARE), (WIDE, LINE), (LINE, WIDE), (Lot([idle(3)]), WIDE), (WIDE, Lot([idle(3)]))):
                self.fails(UnlikeSizes, call, one, other)
            for one, other in ((SQUARE, WIDE), (WIDE, SQUARE), (WIDE, WIDE), (Lot([SLANT, TURN]), FOUR), (WIDE, Lot([idle(2)]))):
                self.fails(Endless, call, one, other)
        for lot in endless_lots():
            plain = Lot([idle(lot.size)])
            for call in (same_members, is_within, shares):
                for one, other in ((lot, plain), (plain, lot), (lot, lot)):
                    self.fails(Endless, call, one, other)


class Shares(Case):
    def test_shares(self):
        lots = finite_lots()
        for lot in lots:
            members = [Table(rows) for rows in members_by_hand(lot.makers())]
            subs = [Lot([member]) for member in members[::5]] + [other for other in lots if other.size == lot.size]
            for sub in [sub for sub in subs if all(lot.has(maker) for maker in sub.makers())]:
                told = shares(lot, sub)
                known = sorted({tuple(sorted((member * Table(rows)).rows for rows in members_by_hand(sub.makers())))
                                for member in members})
                self.assertEqual([tuple(one.rows for one in share) for share in told], known)
                self.assertEqual({len(share) for share in told}, {sub.total})
                self.assertEqual(len(told) * sub.total, lot.total)
                self.assertEqual({type(one) for share in told for one in [share] + share}, {list, Table})
                self.assertIn(sub.members(), told)

    def test_known(self):
        told = shares(lot=SQUARE, sub=Lot([FLIP]))
        self.assertEqual([[one.rows for one in share] for share in told],
                         [[((-1, 0), (0, -1)), ((-1, 0), (0, 1))], [((0, -1), (-1, 0)), ((0, 1), (-1, 0))],
                          [((0, -1), (1, 0)), ((0, 1), (1, 0))], [((1, 0), (0, -1)), ((1, 0), (0, 1))]])
        self.leaves(shares, SQUARE, FOUR)
        self.same_again(shares, SQUARE, FOUR)
        spoilt = shares(SQUARE, FOUR)
        spoilt[0].clear()
        self.assertEqual([len(share) for share in shares(SQUARE, FOUR)], [4, 4])

    def test_not_within(self):
        third = Lot([Table([[-1, -1], [1, 0]])])
        for lot, sub in ((FOUR, SQUARE), (FOUR, Lot([FLIP])), (Lot([idle(2)]), FOUR), (third, FOUR), (POINT, LINE),
                         (SQUARE, Lot([Table([[1, 5], [0, -1]])])), (SQUARE, third), (SQUARE, Lot([idle(2), FLIP, third.makers()[0]]))):
            self.fails(NotWithin if sub.is_finite else Endless, shares, lot, sub)


class TurnedLots(Case):
    def test_turned(self):
        for lot, many in some_lots():
            for table in some_tables(lot.size, 3, seed=23):
                told = self.leaves(turned_lot, lot, table)
                self.assertIs(type(told), Lot)
                self.assertEqual(told.makers(), [table * maker * table.undone() for maker in lot.makers()])
                self.assertEqual(told.total, many)
                self.assertEqual(turned_lot(told, table.undone()), lot)
                if many is not None:
                    wanted = sorted((table * member * table.undone()).rows for member in lot.members())
                    self.assertEqual([member.rows for member in told.members()], wanted)
        self.assertEqual(turned_lot(lot=FOUR, table=FLIP).makers(), [TURN.undone()])
        self.assertEqual(turned_lot(WIDE, FLIP).makers(), [SLANT.undone()])

    def test_wrong(self):
        for table in (FLIP, None, idle(3)):
            self.fails_for_all(InvalidLot, lambda lot: turned_lot(lot, table), wrong_lots())
        for lot in (FOUR, WIDE, LINE):
            self.fails_for_all(InvalidTable, lambda table: turned_lot(lot, table), WRONG + [1, idle(2).rows, Form([[1]]), FOUR])
            for size in (1, 2, 3):
                if size != lot.size:
                    self.fails(UnlikeSizes, turned_lot, lot, idle(size))


class LotsBeside(Case):
    def test_beside(self):
        lots = [lot for lot, _ in some_lots()]
        for one in lots:
            for other in lots:
                if one.size + other.size <= 3 and len(one.makers()) + len(other.makers()) <= 4:
                    told = self.leaves(beside_lots, one, other)
                    self.assertEqual(told.makers(), [beside(maker, idle(other.size)) for maker in one.makers()]
                                     + [beside(idle(one.size), maker) for maker in other.makers()])
                    self.assertIs(told.is_finite, one.is_finite and other.is_finite)
                    if told.is_finite:
                        self.assertEqual(told.total, one.total * other.total)
                        wanted = sorted(beside(left, right).rows for left in one.members() for right in other.members())
                        self.assertEqual([member.rows for member in told.members()], wanted)

    def test_known(self):
        self.assertEqual(beside_lots(lot=FOUR, other_lot=LINE).total, 8)
        self.assertEqual(beside_lots(LINE, POINT).makers(), [Table([[-1, 0], [0, 1]]), idle(2)])
        self.assertEqual([beside_lots(WIDE, LINE).total, beside_lots(LINE, WIDE).total], [None, None])
        self.assertEqual(len(beside_lots(LINE, Lot([TURN, FLIP, TURN])).makers()), 4)

    def test_wrong(self):
        for other in (LINE, None, Lot([idle(3)])):
            self.fails_for_all(InvalidLot, lambda lot: beside_lots(lot, other), wrong_lots())
        for lot in (LINE, WIDE, Lot([idle(3)])):
            self.fails_for_all(InvalidLot, lambda other: beside_lots(lot, other), wrong_lots())
        three, four = Lot([TURN] * 3), Lot([SLANT] * 4)
        for one, other in ((FOUR, FOUR), (Lot([idle(3)]), LINE), (LINE, Lot([idle(3)])), (three, four), (four, four), (WIDE, FOUR),
                           (Lot([idle(3)] * 4), Lot([idle(3)] * 4))):
            self.fails(TooMany, beside_lots, one, other, what="columns", limit=3)
        for one, other in ((three, Lot([Table([[1]])] * 2)), (LINE, four), (Lot([Table([[-1]])] * 4), POINT), (four, Lot([Table([[1]])] * 4))):
            self.fails(TooMany, beside_lots, one, other, what="makers", limit=4)
