from itertools import combinations, combinations_with_replacement

from common import WRONG, Case, endless_lots, finite_lots, members_by_hand, some_tables, wrong_lots
from keptbowls.errors import Endless, InvalidLot, InvalidMembers, TooMany
from keptbowls.forms import Form
from keptbowls.lots import Lot
from keptbowls.makers import fewest_makers, is_makers, made_by, some_makers, sub_lots
from keptbowls.tables import Table, idle

TURN, FLIP, SLANT = Table(((0, -1), (1, 0))), Table(((1, 0), (0, -1))), Table([[1, 1], [0, 1]])
SQUARE, FOUR, WIDE = Lot([TURN, FLIP]), Lot([TURN]), Lot([SLANT])


def diagonal(*numbers):
    return Table([[number if at == place else 0 for place in range(len(numbers))] for at, number in enumerate(numbers)])


BOX = Lot([diagonal(-1, 1, 1), diagonal(1, -1, 1), diagonal(1, 1, -1)])


class MadeBy(Case):
    def test_made(self):
        for lot in finite_lots():
            members = lot.members()
            for many in (1, 2, 3, 4):
                for at in range(0, len(members), 7):
                    chosen = (members[at:] + members + members + members)[:many]
                    told = self.leaves(made_by, lot, chosen)
                    self.assertIs(type(told), Lot)
                    self.assertEqual(told.makers(), chosen)
                    self.assertEqual([one.rows for one in told.members()], members_by_hand(chosen))
        self.assertEqual(made_by(lot=SQUARE, members=(TURN * TURN,)).total, 2)
        self.assertEqual(made_by(SQUARE, [TURN, TURN, FLIP, idle(2)]), Lot([TURN, TURN, FLIP, idle(2)]))

    def test_wrong_lots(self):
        for members in ([TURN], None, []):
            self.fails_for_all(InvalidLot, lambda lot: made_by(lot, members), wrong_lots())
            for lot in endless_lots():
                self.fails(Endless, made_by, lot, members)

    def test_wrong_members(self):
        for value in WRONG + [1, TURN, [], (), [TURN] * 5, [None] * 5, {TURN.rows: TURN}, SQUARE, SQUARE.members()]:
            self.fails(InvalidMembers, made_by, SQUARE, value, position=None)
        other = Table([[0, -1], [1, 1]])
        for value, position in (([None], 0), ([other], 0), ([FLIP, other], 1), ([FLIP, TURN, idle(3), None], 2), ([TURN.rows], 0),
                                ((TURN, TURN, TURN, Form([[1, 0], [0, 1]])), 3), ([True], 0), ([SLANT, FLIP], 0), ([[TURN]], 0),
                                ([FLIP, 1, 2], 1)):
            self.fails(InvalidMembers, made_by, SQUARE, value, position=position)
        self.fails(InvalidMembers, made_by, FOUR, [TURN, FLIP], position=1)


class Fewest(Case):
    def test_fewest(self):
        for lot in finite_lots(16):
            members = lot.members()
            many = 0 if len(members) == 1 else 1
            while many and not any(len(members_by_hand(chosen)) == len(members) for chosen in combinations(members, many)):
                many += 1
            self.assertEqual(self.leaves(fewest_makers, lot), many)
            told = self.leaves(some_makers, lot)
            self.assertEqual([type(told), len(told)], [list, many])
            self.assertTrue(all(lot.has(one) for one in told))
            if many:
                self.assertEqual(members_by_hand(told), members_by_hand(lot.makers()))
                self.assertIs(is_makers(lot, told), True)
            self.assertEqual(some_makers(lot=lot), told)

    def test_known(self):
        self.assertEqual([fewest_makers(lot=Lot([idle(size)])) for size in (1, 2, 3)], [0, 0, 0])
        self.assertEqual(some_makers(Lot([idle(3)])), [])
        self.assertEqual(some_makers(Lot([Table([[-1]]), Table([[1]])])), [Table([[-1]])])
        self.assertEqual([fewest_makers(lot) for lot in (FOUR, SQUARE, BOX)], [1, 2, 3])
        self.assertEqual({lot.total: fewest_makers(lot) for lot in finite_lots(16) if lot.total == 16}, {16: 3})
        self.assertEqual({fewest_makers(lot) for lot in finite_lots(16)}, {0, 1, 2, 3})
        self.same_again(some_makers, SQUARE)

    def test_turned_lots(self):
        for lot in (FOUR, SQUARE, BOX):
            for table in some_tables(lot.size, 3, seed=32):
                made = Lot([table * maker * table.undone() for maker in lot.makers()])
                self.assertEqual(fewest_makers(made), fewest_makers(lot))

    def test_wrong(self):
        for call in (fewest_makers, some_makers, sub_lots):
            self.fails_for_all(InvalidLot, call, wrong_lots())
            for lot in endless_lots():
                self.fails(Endless, call, lot)
        for lot in finite_lots():
            for call in (fewest_makers, some_makers):
                if lot.total > 16:
                    self.fails(TooMany, call, lot, what="members", limit=16)
        self.assertTrue({16, 24, 48} <= {lot.total for lot in finite_lots()})


class IsMakers(Case):
    def test_told(self):
        self.assertIs(is_makers(lot=SQUARE, value=[FLIP, TURN]), True)
        self.assertIs(is_makers(SQUARE, (FLIP, FLIP * TURN, FLIP, idle(2))), True)
        self.assertIs(is_makers(SQUARE, [TURN]), False)
        self.assertIs(is_makers(SQUARE, [FLIP, TURN * TURN]), False)
        self.assertIs(is_makers(Lot([idle(2)]), [idle(2)]), True)
        self.assertIs(is_makers(Lot([idle(2)]), []), False)
        for lot in finite_lots():
            members = lot.members()
            self.assertIs(self.leaves(is_makers, lot, lot.makers()), True)
            self.assertIs(is_makers(lot, tuple(maker.undone() for maker in lot.makers())), True)
            for chosen in list(combinations_with_replacement(members[::3], 2))[:40]:
                self.assertIs(is_makers(lot, list(chosen)), len(members_by_hand(chosen)) == len(members))

    def test_other_values(self):
        other = Table([[0, -1], [1, 1]])
        for value in WRONG + [1, TURN, SQUARE, [], (), [TURN, FLIP, TURN, FLIP, TURN], [TURN, FLIP, None], [TURN, FLIP, 1], [other],
                              [TURN, FLIP, other], [TURN.rows, FLIP.rows], [TURN, FLIP, SLANT], [[TURN, FLIP]], [TURN, FLIP, idle(3)],
                              {TURN.rows: TURN, FLIP.rows: FLIP}, "ab", SQUARE.members(), [Form([[1, 0], [0, 1]]), TURN, FLIP]]:
            self.assertIs(is_makers(SQUARE, value), False)
        # These make more than the lot.
        self.assertIs(is_makers(FOUR, [TURN, FLIP]), False)

    def test_wrong(self):
        for value in ([TURN], None):
            self.fails_for_all(InvalidLot, lambda lot: is_makers(lot, value), wrong_lots())
        for lot in endless_lots():
            for value in (lot.makers(), None, [], 1):
                self.fails(Endless, is_makers, lot, value)


class SubLots(Case):
    def test_counted(self):
        for lot in finite_lots(12):
            known = {tuple(members_by_hand(pair)) for pair in combinations_with_replacement(lot.members(), 2)}
            self.assertEqual(self.leaves(sub_lots, lot), len(known))

    def test_known(self):
        self.assertEqual([sub_lots(lot=SQUARE), sub_lots(FOUR), sub_lots(Lot([idle(1)])), sub_lots(Lot([Table([[-1]])]))], [10, 3, 1, 2])
        # Of the sixteen lots within this one the whole one is made by three members, and by no two.
        self.assertEqual(sub_lots(BOX), 15)
        self.assertEqual([sub_lots(lot) for lot in finite_lots(12) if lot.total == 12], [16, 10])

    def test_more_members(self):
        for lot in finite_lots():
            if lot.total > 12:
                self.fails(TooMany, sub_lots, lot, what="members", limit=12)
        self.assertIn(16, [lot.total for lot in finite_lots()])

    def test_one_behind_the_other(self):
        for _ in range(20):
            self.assertEqual([sub_lots(SQUARE), fewest_makers(SQUARE), some_makers(SQUARE)], [10, 2, some_makers(SQUARE)])
