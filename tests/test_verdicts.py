from math import gcd

from common import BIG, ENDLESS, NO_BOWLS, WRONG, Case, endless_lots, finite_lots, grids_times, members_by_hand, some_lots
from common import some_tables, wrong_lots
from keptbowls.bowls import is_bowl
from keptbowls.errors import Endless, InvalidLot, InvalidModulus
from keptbowls.forms import Form, sum_form
from keptbowls.lots import Lot
from keptbowls.orders import order, rest_order
from keptbowls.tables import Table, idle
from keptbowls.verdicts import endless_paper, is_bowl_paper, is_endless_paper, kept_bowl, rest_members

TURN, FLIP, SLANT = Table([[0, -1], [1, 1]]), Table([[0, 1], [1, 0]]), Table([[1, 1], [0, 1]])
LOT, WIDE, THIRD = Lot([TURN, FLIP]), Lot([SLANT]), Lot([SLANT.power(3)])
MIRRORS = Lot([Table([[1, 0], [0, -1]]), Table([[1, 1], [0, -1]])])
SPREAD = Lot([Table([[1, 0, 0], [0, 1, 7], [0, 0, 1]])])
HEXAGON = Form([[2, 1], [1, 2]])


class KeptBowls(Case):
    def test_known(self):
        self.assertEqual(kept_bowl(LOT), HEXAGON)
        self.assertEqual(kept_bowl(lot=Lot([idle(3)])), sum_form(3))
        self.assertEqual([kept_bowl(Lot([Table([[number]])])) for number in (1, -1)], [Form([[1]])] * 2)
        # Both numbers are 4 and more here: without dividing.
        self.assertEqual(kept_bowl(Lot([Table([[0, -1], [1, 0]])])), sum_form(2))

    def test_sums_over_members(self):
        for lot in finite_lots():
            for made in [lot] + [Lot([table * one * table.undone() for one in lot.makers()])
                                 for table in some_tables(lot.size, 2, seed=21)]:
                whole = [[0] * lot.size for _ in range(lot.size)]
                for rows in members_by_hand(made.makers()):
                    more = grids_times(list(zip(*rows)), rows)
                    whole = [[one + other for one, other in zip(row, line)] for row, line in zip(whole, more)]
                by = gcd(*[number for row in whole for number in row])
                told = self.leaves(kept_bowl, made)
                self.assertEqual(told, Form([[number // by for number in row] for row in whole]))
                self.assertEqual([is_bowl(told), told.divisor()], [True, 1])
                self.assertTrue(all(told.led(member) == told for member in made.members()))
                self.assertIs(is_bowl_paper(made, told), True)

    def test_other_makers_of_the_same_members(self):
        for lot in finite_lots():
            members = lot.members()
            for many in (1, 2, 3, 4):
                for at in range(0, len(members), 5):
                    other = Lot((members[at:] + members[:at])[:many])
                    if other.total == lot.total:
                        self.assertEqual(kept_bowl(other), kept_bowl(lot))

    def test_wrong(self):
        self.fails_for_all(InvalidLot, kept_bowl, wrong_lots())
        for lot in endless_lots():
            self.fails(Endless, kept_bowl, lot)


class BowlPapers(Case):
    def test_papers(self):
        self.assertIs(is_bowl_paper(lot=LOT, value=Form([[4, 2], [2, 4]])), True)
        for lot in finite_lots():
            bowl = kept_bowl(lot)
            for number in (1, 2, 7, BIG):
                self.assertIs(is_bowl_paper(lot, bowl.times(number)), True)
            for number in (0, -1, -2):
                self.assertIs(is_bowl_paper(lot, bowl.times(number)), False)
            for rows in NO_BOWLS:
                self.assertIs(is_bowl_paper(lot, Form(rows)), False)
        flip = Lot([Table([[1, 0], [0, -1]])])
        for one, other in ((1, 1), (3, 7), (BIG, 1)):
            self.assertIs(is_bowl_paper(flip, Form([[one, 0], [0, other]])), True)
            self.assertIs(is_bowl_paper(flip, Form([[one * other + 1, 1], [1, 1]])), False)

    def test_one_maker_does_not_keep_it(self):
        quarter, flip = Table([[0, -1], [1, 0]]), Table([[1, 0], [0, -1]])
        for makers in ([quarter, flip], [flip, quarter], [idle(2), flip, quarter, flip]):
            self.assertIs(is_bowl_paper(Lot(makers), Form([[1, 0], [0, 2]])), False)
            self.assertIs(is_bowl_paper(Lot(makers), Form([[3, 0], [0, 3]])), True)
        self.assertIs(is_bowl_paper(LOT, sum_form(2)), False)

    def test_other_values(self):
        for lot, _ in some_lots():
            for value in WRONG + [1, idle(lot.size), sum_form(lot.size).rows, [sum_form(lot.size)], lot, Form,
                                  sum_form(lot.size % 3 + 1), kept_bowl(LOT) if lot.size != 2 else sum_form(1)]:
                self.assertIs(is_bowl_paper(lot, value), False)
        self.fails_for_all(InvalidLot, lambda lot: is_bowl_paper(lot, HEXAGON), wrong_lots())
        self.fails_for_all(InvalidLot, lambda lot: is_bowl_paper(lot, None), wrong_lots())

    def test_endless_lots_have_none(self):
        for lot in endless_lots():
            for rows in ([[1]], [[1, 0], [0, 1]], [[2, 1], [1, 2]], [[1, 0], [0, BIG]], [[1, 0, 0], [0, 1, 0], [0, 0, 1]],
                         [[2, 1, 1], [1, 2, 1], [1, 1, 2]]):
                self.assertIs(is_bowl_paper(lot, Form(rows)), False)


class EndlessPapers(Case):
    def test_just_one_of_both(self):
        for lot, many in some_lots():
            told = self.leaves(endless_paper, lot)
            if many is None:
                self.assertIs(is_endless_paper(lot, told), True)
                self.assertIn(type(told), (list, tuple))
                self.assertEqual(endless_paper(lot=lot), told)
                self.assertIs(is_bowl_paper(lot, told), False)
                words = [told[0]] if isinstance(told, tuple) else told
                self.assertEqual({type(word) for word in words}, {list})
            else:
                self.assertIsNone(told)
                self.assertIs(is_endless_paper(lot, kept_bowl(lot)), False)

    def test_papers_of_endless_turned_lots(self):
        for makers in ENDLESS:
            for table in some_tables(len(makers[0]), 3, seed=22, greatest=9):
                lot = Lot([table * Table(rows) * table.undone() for rows in makers])
                self.assertIs(is_endless_paper(lot, endless_paper(lot)), True)

    def test_returned_lists_are_new(self):
        for lot in (WIDE, MIRRORS, SPREAD):
            told = endless_paper(lot)
            if isinstance(told, list):
                told[1].append(1)
                told.append([1])
            else:
                told[0].append(1)
            self.assertIs(is_endless_paper(lot, endless_paper(lot)), True)

    def test_words_with_times(self):
        for paper in (([1], 3), ((1,), 3), ([-1], 3), ([1, 1], 3), ([1], 99), ([1, 1, 1], 1), ([1, 1, 1], 100), ([-1] * 60, 1),
                      ([1, -1, 1], 6), ([1] * 60, 100)):
            self.assertIs(self.leaves(is_endless_paper, WIDE, paper), True)
        for paper in (([1], 1), ([1], 2), ([1], 100), ([1], 98), ([1], 0), ([1], -3), ([1], 102), ([1], 101), ([], 3), ([1, -1], 3),
                      ([1, 1, 1], 101), ([1, 1, 1], 0), ([1, 1, 1], True), ([1, 1, 1], None), ([1, 1, 1], [1]), ([1] * 61, 3),
                      ([1] * 63, 1), ([2], 3), ([0], 3), ([-2], 3), ([True], 3), ([1, None], 3), (1, 3), ("1", 3), (None, 3),
                      (3, [1]), [[1], 3], [(1,), 3], ([1], 3, 3), ([1],), (([1], 3),), ([1, 1, 1], BIG), ([1, 1, 1], "1")):
            self.assertIs(is_endless_paper(WIDE, paper), False)
        self.assertIs(is_endless_paper(lot=THIRD, value=([1], 1)), True)
        self.assertIs(is_endless_paper(THIRD, ([1], True)), False)
        self.assertIs(is_endless_paper(THIRD, ([1], 100)), True)
        self.assertIs(is_endless_paper(THIRD, ([1], 101)), False)

    def test_mirrors_whose_product_is_endless(self):
        self.assertEqual([order(maker) for maker in MIRRORS.makers()], [2, 2])
        self.assertIs(is_endless_paper(MIRRORS, ([1, 2], 3)), True)
        self.assertIs(is_endless_paper(MIRRORS, ([2, -1] * 30, 99)), True)
        for times in range(-1, 102):
            self.assertIs(is_endless_paper(MIRRORS, ([1], times)), False)
            self.assertIs(is_endless_paper(MIRRORS, ([1, 2, 1], times)), False)
            self.assertIs(is_endless_paper(MIRRORS, ([2, 1], times)), times in range(3, 100, 3))

    def test_by_powers(self):
        for lot, _ in some_lots():
            for word in ([1], [-1, -1], [len(lot.makers()), 1], [1, 1, 1, -len(lot.makers())]):
                reached = idle(lot.size)
                for times in range(1, 30):
                    reached = reached * lot.product(word)
                    slant = reached.rests(3) == idle(lot.size).rows and reached != idle(lot.size)
                    self.assertIs(is_endless_paper(lot, (word, times)), slant)

    def test_great_numbers(self):
        lot = Lot([Table([[1, BIG], [0, 1]]), Table([[1, 0], [BIG, 1]])])
        table = lot.product([1, 2] * 30)
        often = rest_order(table)
        for times in range(1, 101):
            self.assertIs(is_endless_paper(lot, ([1, 2] * 30, times)), times % often == 0)
        self.assertIs(is_endless_paper(lot, endless_paper(lot)), True)

    def test_lists_of_words(self):
        for lot, many in ((WIDE, 13), (SPREAD, 49)):
            good = [[1] * (at % 49) for at in range(many)]
            self.assertIs(is_endless_paper(lot, good), True)
            self.assertIs(is_endless_paper(lot, tuple(tuple(word) for word in good)), True)
            self.assertIs(is_endless_paper(lot, good[::-1]), True)
            for value in (good[:-1], good + [[-1]], good[:-1] + [[1, -1]], good[:-1] + [[1]], good[:-1] + [[2]], good[:-1] + [None],
                          good[:-1] + [[True]], good[:-1] + [1], [[1] * 61] + good[1:], [good], (good, 3), good[:-1] + [[0]],
                          {at: word for at, word in enumerate(good)}, good[:3], [good[0]] * many):
                self.assertIs(is_endless_paper(lot, value), False)
            self.assertIs(is_endless_paper(lot, [[-1] * 60] + good[1:]), True)
        self.assertIs(is_endless_paper(WIDE, [[1] * at for at in range(49)]), False)
        self.assertIs(is_endless_paper(SPREAD, [[1] * at for at in range(13)]), False)

    def test_no_paper_of_finite_lots(self):
        for lot in finite_lots():
            for value in [([1], often) for often in (1, 2, 3, 4, 6, 12)] + [([], 3), ((1,), 24), [[]], [[1] * at for at in range(3)],
                          [[1] * at for at in range(13)], [[1] * at for at in range(49)], None, []]:
                self.assertIs(is_endless_paper(lot, value), False)
        both = Lot([Table([[-1]]), Table([[1]])])
        self.assertIs(is_endless_paper(both, [[], [1], [2]]), False)

    def test_other_values(self):
        for lot, _ in some_lots():
            for value in WRONG + [0, 1, lot, idle(lot.size), lot.makers(), [], (), [[]], ([],), ((), ()), [None] * 13, [1] * 49]:
                self.assertIs(is_endless_paper(lot, value), False)
        for call in (endless_paper, lambda lot: is_endless_paper(lot, ([1], 3)), lambda lot: is_endless_paper(lot, None)):
            self.fails_for_all(InvalidLot, call, wrong_lots())


class RestMembers(Case):
    def test_rests(self):
        for lot in finite_lots():
            for modulus in (2, 3, 4, 5, 12, 1000):
                told = self.leaves(rest_members, lot, modulus)
                known = {tuple(tuple(number % modulus for number in row) for row in rows)
                         for rows in members_by_hand(lot.makers())}
                self.assertEqual(told, sorted(known))
                if modulus > 2:
                    self.assertEqual(len(told), lot.total)
        self.assertEqual(len(rest_members(lot=LOT, modulus=2)), 6)
        self.assertEqual(rest_members(Lot([Table([[-1]])]), 1000), [((1,),), ((999,),)])
        self.same_again(rest_members, LOT, 2)

    def test_idle_rests_by_two(self):
        for lot in finite_lots():
            alike = [member for member in lot.members() if member.rests(2) == idle(lot.size).rows]
            self.assertEqual(len(rest_members(lot, 2)) * len(alike), lot.total)
            self.assertTrue(all(one * one == idle(lot.size) for one in alike))
            self.assertTrue(all(one * other == other * one for one in alike for other in alike))

    def test_wrong(self):
        for modulus in (2, None, 1001):
            self.fails_for_all(InvalidLot, lambda lot: rest_members(lot, modulus), wrong_lots())
        for lot in (LOT, WIDE):
            self.fails_for_all(InvalidModulus, lambda modulus: rest_members(lot, modulus), WRONG + [0, 1, -2, 1001, BIG, [2]])
        for lot in endless_lots():
            self.fails(Endless, rest_members, lot, 2)
