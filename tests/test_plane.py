from common import BIG, ENDLESS, PLANE, SPACE, WRONG, Case, finite_lots, lots_turned, rows_of_lot, some_tables, wrong_lots
from keptbowls.bowls import is_bowl
from keptbowls.errors import Endless, InvalidKind, InvalidLot, NotPlane
from keptbowls.forms import Form, sum_form
from keptbowls.keepers import keepers_lot
from keptbowls.lots import Lot
from keptbowls.makers import made_by
from keptbowls.parts import same_members, turned_lot
from keptbowls.plane import is_kind_lead, kind_lead, plane_kind, told_lot
from keptbowls.tables import Table, idle
from keptbowls.verdicts import kept_bowl

# As the document tells them.
TOLD = """"1": 1,0;0,1. "2": -1,0;0,-1. "3": -1,-1;1,0. "4": 0,-1;1,0. "6": 0,-1;1,1. "m": 1,0;0,-1. "c": 0,1;1,0.
"2mm": -1,0;0,-1 & 1,0;0,-1. "c2mm": -1,0;0,-1 & 0,1;1,0. "3m1": -1,-1;1,0 & 0,1;1,0. "31m": -1,-1;1,0 & 0,-1;-1,0.
"4mm": 0,-1;1,0 & 1,0;0,-1. "6mm": 0,-1;1,1 & 0,1;1,0."""
FLIP = Table([[1, 0], [0, -1]])


def told_in_the_document():
    for part in TOLD.replace("\n", " ").rstrip(".").split(". "):
        kind, _, makers = part.partition(": ")
        yield kind.strip('"'), [Table([[int(one) for one in row.split(",")] for row in maker.split(";")])
                                for maker in makers.split(" & ")]


def with_other_makers(lot):
    """Lots with the same members and other makers."""
    members = lot.members()
    for at in range(len(members)):
        for many in (1, 2, 3, 4):
            other = Lot((members[at:] + members[:at])[::-1][:many])
            if other.total == lot.total:
                yield other


class ToldLots(Case):
    def test_thirteen(self):
        told = dict(told_in_the_document())
        self.assertEqual(sorted(told), sorted(PLANE))
        self.assertEqual(len(told), 13)
        for kind, makers in told.items():
            lot = told_lot(kind)
            self.assertIs(type(lot), Lot)
            self.assertEqual(lot.makers(), makers)
            self.assertEqual(lot.total, PLANE[kind][1])
        self.assertEqual(told_lot(kind="4").makers(), [Table([[0, -1], [1, 0]])])

    def test_wrong(self):
        values = [value for value in WRONG if value != "1"] + [1, 2, 6, 0, -1, "5", "12", "mm", "C", "M", " 4", "4 ", "4m", "2m", "m2", "6MM", "cm", "3m", "1m", "p1", "-",
                          ["4"], ("4",), told_lot("4"), idle(2)]
        self.fails_for_all(InvalidKind, told_lot, values)


class Kinds(Case):
    def test_all_kinds_turned(self):
        for kind in PLANE:
            for greatest in (3, 40):
                for lot in lots_turned(told_lot(kind), 25, seed=71, greatest=greatest):
                    self.assertEqual(self.leaves(plane_kind, lot), kind)
                    table = self.leaves(kind_lead, lot)
                    self.assertIs(type(table), Table)
                    turned = sorted((table * one * table.undone()).rows for one in lot.members())
                    self.assertEqual(turned, rows_of_lot(told_lot(kind)))
                    self.assertIs(is_kind_lead(lot, table), True)
                    self.assertEqual(kind_lead(lot), table)

    def test_other_makers(self):
        for kind in PLANE:
            for lot in lots_turned(told_lot(kind), 3, seed=72):
                for other in with_other_makers(lot):
                    self.assertEqual(plane_kind(lot=other), kind)
                    table = kind_lead(lot=other)
                    self.assertTrue(same_members(turned_lot(other, table), told_lot(kind)))

    def test_great_numbers(self):
        far = Table([[BIG, 1], [BIG * BIG - 1, BIG]])
        for kind in PLANE:
            lot = turned_lot(told_lot(kind), far)
            self.assertEqual(plane_kind(lot), kind)
            self.assertTrue(same_members(turned_lot(lot, kind_lead(lot)), told_lot(kind)))
            self.assertIs(is_kind_lead(lot, far.undone()), True)

    def test_known(self):
        self.assertEqual(plane_kind(Lot([Table([[1, 1], [0, -1]])])), "c")
        self.assertEqual(plane_kind(Lot([Table([[1, 2], [0, -1]])])), "m")
        self.assertEqual(plane_kind(Lot([idle(2)])), "1")
        self.assertEqual(plane_kind(Lot([idle(2), FLIP.power(2)])), "1")
        for rows, kind in (([[2, 1], [1, 2]], "6mm"), ([[1, 0], [0, 1]], "4mm"), ([[5, 7], [7, 10]], "4mm"), ([[1, 0], [0, 2]], "2mm"),
                           ([[3, 1], [1, 3]], "c2mm"), ([[2, 1], [1, 3]], "c2mm"), ([[3, 1], [1, 4]], "2")):
            self.assertTrue(is_bowl(Form(rows)))
            self.assertEqual(plane_kind(keepers_lot(Form(rows))), kind)

    def test_lots_within_the_greatest_ones(self):
        found = {}
        for kind in ("4mm", "6mm"):
            for lot in lots_turned(told_lot(kind), 1, seed=73):
                members = lot.members()
                for one in members:
                    for other in members:
                        within = made_by(lot, [one, other])
                        told = plane_kind(within)
                        found[told] = True
                        self.assertEqual(within.total, PLANE[told][1])
                        self.assertTrue(same_members(turned_lot(within, kind_lead(within)), told_lot(told)))
        self.assertEqual(sorted(found), sorted(PLANE))

    def test_kept_bowl_of_the_turned_one(self):
        for kind in ("3", "6", "3m1", "31m", "6mm"):
            for lot in lots_turned(told_lot(kind), 3, seed=74):
                self.assertEqual(kept_bowl(turned_lot(lot, kind_lead(lot))), Form([[2, 1], [1, 2]]))
        for lot in lots_turned(told_lot("4mm"), 3, seed=74):
            self.assertEqual(kept_bowl(turned_lot(lot, kind_lead(lot))), sum_form(2))


class KindLeads(Case):
    def test_by_members(self):
        tables = some_tables(2, 60, seed=75, greatest=1) + [idle(2), FLIP]
        for kind in PLANE:
            told = told_lot(kind).members()
            yes = 0
            for lot in lots_turned(told_lot(kind), 2, seed=76, greatest=1):
                for table in tables:
                    turned = sorted((table * one * table.undone()).rows for one in lot.members())
                    right = turned == [one.rows for one in told]
                    self.assertIs(self.leaves(is_kind_lead, lot, table), right)
                    yes += right
            self.assertTrue(yes > 0)
        square = told_lot("4mm")
        self.assertEqual([is_kind_lead(lot=square, value=idle(2)), is_kind_lead(square, Table([[1, 1], [0, 1]]))], [True, False])

    def test_led_on_by_the_told_lot(self):
        for kind in PLANE:
            for lot in lots_turned(told_lot(kind), 2, seed=77):
                for member in lot.members():
                    self.assertIs(is_kind_lead(lot, kind_lead(lot) * member), True)

    def test_values_that_are_none(self):
        for kind in PLANE:
            lot = told_lot(kind)
            for value in WRONG + [0, 1, kind, idle(1), idle(3), idle(2).rows, [[1, 0], [0, 1]], [idle(2)], lot, sum_form(2)]:
                self.assertIs(is_kind_lead(lot, value), False)


class WrongLots(Case):
    CALLS = (plane_kind, kind_lead, lambda lot: is_kind_lead(lot, idle(2)), lambda lot: is_kind_lead(lot, None))

    def test_lots(self):
        for call in self.CALLS:
            self.fails_for_all(InvalidLot, call, wrong_lots())
            for lot in finite_lots():
                if lot.size != 2:
                    self.fails(NotPlane, call, lot)
            for makers in ENDLESS:
                lot = Lot([Table(rows) for rows in makers])
                # Three columns are ahead of lots without end.
                self.fails(NotPlane if lot.size == 3 else Endless, call, lot)
        self.assertTrue(any(len(makers[0]) == 3 for makers in ENDLESS) and SPACE)
