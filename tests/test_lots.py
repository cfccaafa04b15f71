import random

from common import BIG, ENDLESS, SPACE, WRONG, Case, endless_lots, finite_lots, grids_times, members_by_hand, some_lots
from common import some_tables, wrong_makers
from keptbowls.errors import Endless, InvalidMakers, InvalidMember, InvalidWord
from keptbowls.forms import Form
from keptbowls.lots import Lot
from keptbowls.orders import order
from keptbowls.tables import Table, idle

TURN, FLIP, SLANT = Table([[0, -1], [1, 1]]), Table([[0, 1], [1, 0]]), Table([[1, 1], [0, 1]])


def shortest(lot):
    """How long a shortest word of each member is, by the rows of the member."""
    steps = [maker.rows for maker in lot.makers()] + [maker.undone().rows for maker in lot.makers()]
    found = {idle(lot.size).rows: 0}
    many = 0
    while many in found.values():
        for rows in [rows for rows, length in found.items() if length == many]:
            for step in steps:
                found.setdefault(grids_times(rows, step), many + 1)
        many += 1
    return found


class Counts(Case):
    def test_finite_or_endless(self):
        for lot, many in some_lots():
            with self.subTest(lot=lot):
                self.assertEqual(lot.total, many)
                self.assertIs(lot.is_finite, many is not None)
                self.assertEqual(lot.size, lot.makers()[0].size)

    def test_each_count_of_two_columns(self):
        self.assertEqual(sorted({lot.total for lot in finite_lots() if lot.size == 2}), [1, 2, 3, 4, 6, 8, 12])
        self.assertEqual({48 % lot.total for lot in finite_lots() if lot.size == 3}, {0})

    def test_turned_ones(self):
        for lot, many in some_lots():
            for table in some_tables(lot.size, 2, seed=15, greatest=9):
                made = Lot([table * maker * table.undone() for maker in lot.makers()])
                self.assertEqual([made.total, made.is_finite], [many, many is not None])

    def test_makers_that_come_home(self):
        for makers in ENDLESS[:4]:
            self.assertTrue(all(order(Table(rows)) for rows in makers))
            self.assertIsNone(Lot([Table(rows) for rows in makers]).total)

    def test_some_made_at_random(self):
        for size, most in ((1, 2), (2, 12), (3, 48)):
            tables = [one for one in some_tables(size, 60, seed=16, greatest=1) if order(one) is not None]
            for at in range(len(tables) - 2):
                lot = Lot(tables[at:at + 2])
                known = members_by_hand(lot.makers())
                self.assertEqual(lot.total, len(known) if len(known) <= most else None)


class Made(Case):
    def test_makers(self):
        for many in (1, 2, 3, 4):
            makers = [TURN, FLIP, TURN, idle(2)][:many]
            lot = self.leaves(Lot, makers)
            kept = list(makers)
            makers[0] = SLANT
            makers.append(None)
            self.assertEqual(lot.makers(), kept)
            self.same_again(lot.makers)
            self.assertEqual(Lot(tuple(kept)), lot)
        self.assertEqual(Lot(makers=[TURN]).makers(), [TURN])
        self.assertEqual([Lot([idle(2), TURN, TURN]).total, Lot([SLANT, idle(2)]).total], [6, None])

    def test_equal(self):
        lots = [lot for lot, _ in some_lots()]
        for at, lot in enumerate(lots):
            self.assertIs(lot == Lot(lot.makers()), True)
            self.assertIs(lot != Lot(lot.makers()), False)
            self.assertEqual([place for place, other in enumerate(lots) if lot == other], [at])
        self.assertIs(Lot([TURN, FLIP]) == Lot([FLIP, TURN]), False)
        self.assertIs(Lot([TURN]) == Lot([TURN, TURN]), False)
        self.assertIs(Lot([TURN]) == Lot([TURN.undone()]), False)
        for value in WRONG + [1, TURN, [TURN], (TURN,), Form([[1]]), Lot]:
            self.assertIs(Lot([TURN]) == value, False)
            self.assertIs(Lot([TURN]) != value, True)

    def test_repr(self):
        self.assertEqual(repr(Lot([SLANT])), "Lot([Table(((1, 1), (0, 1)))])")
        self.assertEqual(repr(Lot((TURN, FLIP))), "Lot([Table(((0, -1), (1, 1))), Table(((0, 1), (1, 0)))])")
        for lot, _ in some_lots():
            self.assertEqual(eval(repr(lot), {"Lot": Lot, "Table": Table}), lot)

    def test_never_changes(self):
        with self.assertRaises(AttributeError):
            Lot([TURN]).total = 5
        lot = Lot([TURN, FLIP])
        word = lot.word_of(TURN * FLIP)
        word.append(1)
        lot.members().clear()
        lot.makers().clear()
        self.assertEqual([lot.product(lot.word_of(TURN * FLIP)), lot.total, len(lot.members())], [TURN * FLIP, 12, 12])

    def test_wrong_makers(self):
        for value, position in wrong_makers():
            with self.subTest(value=value):
                self.fails(InvalidMakers, Lot, value, position=position)


class Members(Case):
    def test_members(self):
        for lot in finite_lots():
            told = lot.members()
            self.assertEqual([member.rows for member in told], members_by_hand(lot.makers()))
            self.assertEqual({type(member) for member in told}, {Table})
            self.assertEqual(len(told), lot.total)
            self.same_again(lot.members)

    def test_has(self):
        for lot in finite_lots():
            known = members_by_hand(lot.makers())
            for member in lot.members():
                self.assertIs(lot.has(Table(member.rows)), True)
            for table in some_tables(lot.size, 20, greatest=1) + some_tables(lot.size % 3 + 1, 3):
                self.assertIs(lot.has(table), table.rows in known)
            for value in WRONG + [0, 1, idle(lot.size).rows, [idle(lot.size)], Form(idle(lot.size).rows), lot]:
                self.assertIs(lot.has(value=value), False)

    def test_words(self):
        for lot in finite_lots():
            lengths = shortest(lot)
            for member in lot.members():
                word = lot.word_of(member)
                self.assertIs(type(word), list)
                self.assertEqual(len(word), lengths[member.rows])
                self.assertEqual(lot.product(word), member)
                self.assertEqual(lot.word_of(member=Table(member.rows)), word)
            self.assertEqual(lot.word_of(idle(lot.size)), [])
        self.same_again(Lot([TURN]).word_of, TURN)

    def test_no_members(self):
        for lot in finite_lots():
            others = [table for table in some_tables(lot.size, 20) if table.rows not in members_by_hand(lot.makers())]
            self.fails_for_all(InvalidMember, lot.word_of, WRONG + [0, 1, idle(lot.size).rows, lot, [idle(lot.size)],
                                                                    Form(idle(lot.size).rows), idle(lot.size % 3 + 1)] + others)

    def test_endless(self):
        for lot in endless_lots():
            self.fails(Endless, lot.members)
            for value in WRONG + [1, lot.makers()[0], idle(lot.size), idle(lot.size % 3 + 1)]:
                self.fails(Endless, lot.has, value)
                self.fails(Endless, lot.word_of, value)


class Products(Case):
    def test_products(self):
        source = random.Random(17)
        for lot, _ in some_lots():
            many = len(lot.makers())
            for length in (0, 1, 5, 60):
                word = [source.choice((-1, 1)) * source.randint(1, many) for _ in range(length)]
                known = idle(lot.size).rows
                for letter in word:
                    maker = lot.makers()[abs(letter) - 1]
                    known = grids_times(known, maker.rows if letter > 0 else maker.undone().rows)
                told = self.leaves(lot.product, word)
                self.is_table(told, known)
                self.assertEqual(lot.product(word=tuple(word)), told)
        self.assertEqual(Lot([Table([[1, BIG], [0, 1]])]).product([-1] * 60).rows, ((1, -60 * BIG), (0, 1)))

    def test_wrong_words(self):
        for lot, _ in some_lots():
            many = len(lot.makers())
            self.fails_for_all(InvalidWord, lot.product, WRONG + [1, TURN, [0], [many + 1], [1, -many - 1], [True], [1] * 61,
                                                                  [1, None], [[1]], (1, False), [BIG], "1"])

    def test_many_makers(self):
        lot = Lot([Table(rows) for rows in SPACE[-1][0]])
        self.assertEqual(lot.product([4, -4, 3, 3, 2, 2, 2]), idle(3))
        self.fails(InvalidWord, lot.product, [5], value=[5])
