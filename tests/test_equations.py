import random
from fractions import Fraction
from itertools import combinations, product
from math import gcd

from common import BIG, WRONG, Case, by_hand
from keptbowls.equations import is_solution, is_solution_basis, solution_basis
from keptbowls.errors import InvalidEquations
from keptbowls.forms import Form


def rank_of(lists):
    """How many of the lists are independent, by fractions."""
    rows = [[Fraction(number) for number in row] for row in lists]
    rank = 0
    for place in range(len(rows[0]) if rows else 0):
        at = next((k for k in range(rank, len(rows)) if rows[k][place] != 0), None)
        if at is None:
            continue
        rows[rank], rows[at] = rows[at], rows[rank]
        for k in range(rank + 1, len(rows)):
            factor = rows[k][place] / rows[rank][place]
            rows[k] = [x - factor * y for x, y in zip(rows[k], rows[rank])]
        rank += 1
    return rank


def solves(equations, row):
    return all(sum(a * b for a, b in zip(line, row)) == 0 for line in equations)


def basis_by_minors(equations, lists):
    """Whether the lists are a basis of solutions: as many as it takes, with minors that no number divides."""
    length = len(equations[0])
    wanted = length - rank_of(equations)
    if len(lists) != wanted or not all(len(row) == length and solves(equations, row) for row in lists):
        return False
    common = 0
    for places in combinations(range(length), wanted):
        common = gcd(common, by_hand([[row[place] for place in places] for row in lists]))
    return common == 1


def some_equations():
    source = random.Random(31)
    for length in range(1, 7):
        for many in (1, 2, 3, 5):
            for greatest in (1, 4, 30):
                yield [[source.randint(-greatest, greatest) for _ in range(length)] for _ in range(many)]
    for rank in range(1, 6):
        base = [[source.randint(-9, 9) for _ in range(6)] for _ in range(rank)]
        yield [[sum(source.randint(-5, 5) * row[at] for row in base) for at in range(6)] for _ in range(2)]
        made = []
        for _ in range(60):
            factors = [source.randint(-7, 7) for _ in base]
            made.append([sum(f * row[at] for f, row in zip(factors, base)) for at in range(6)])
        yield made
        yield [[source.randint(-BIG, BIG) for _ in range(6)] for _ in range(rank)]
        yield [[source.randint(-BIG, BIG) * (at % 2) for at in range(6)] for _ in range(rank)]
    yield [[BIG, -BIG, 1]]
    yield [[2 * BIG, 3 * BIG]]
    yield [[0]]
    yield [[7]]
    yield [[0] * 6] * 60
    yield [[0] * 6] * 59 + [[1, 2, 3, 4, 5, 6]]


class Bases(Case):
    def test_bases_by_minors(self):
        for equations in some_equations():
            told = self.leaves(solution_basis, equations)
            self.assertEqual([type(told), {type(row) for row in told} - {tuple}], [list, set()])
            self.assertTrue(basis_by_minors(equations, told))
            self.assertIs(is_solution_basis(equations, told), True)
            self.assertEqual(solution_basis(tuple(tuple(line) for line in equations)), told)
            for row in told:
                self.assertIs(is_solution(equations, row), True)

    def test_numbers_stay_within_three_hundred_digits(self):
        source = random.Random(7)
        for rank in range(1, 6):
            lists = [[source.randint(-BIG, BIG) for _ in range(6)] for _ in range(rank)]
            for row in solution_basis(lists):
                self.assertTrue(all(abs(number) < 10 ** 300 for number in row))

    def test_examples(self):
        self.assertEqual(solution_basis([[0, 0], [5, 7], [1, 2]]), [])
        self.assertEqual(len(solution_basis([[1, 1, 1, 1, 1, 1], [2, 2, 2, 2, 2, 2]])), 5)
        self.assertEqual(len(solution_basis(equations=[[0]])), 1)
        self.assertEqual(solution_basis([[3]]), [])
        self.assertEqual(len(solution_basis([[0] * 6] * 60)), 6)
        self.same_again(solution_basis, [[2, -3, 0]])
        self.same_again(solution_basis, [[3]])

    def test_small_solutions_are_whole_sums(self):
        for line in ([2, -3, 0], [4, 6, 10], [1, 1, 1], [0, 0, 5], [6, 10, 15]):
            told = solution_basis([line])
            sums = {tuple(sum(f * row[at] for f, row in zip(factors, told)) for at in range(3))
                    for factors in product(range(-40, 41), repeat=2)}
            for row in product(range(-3, 4), repeat=3):
                if solves([line], row):
                    self.assertIn(row, sums)


class IsSolution(Case):
    def test_right_and_wrong(self):
        lines = [[2, -3, 0]]
        for value in ((3, 2, 7), [3, 2, 7], (0, 0, 0), [-6, -4, BIG], (3 * BIG, 2 * BIG, -1)):
            self.assertIs(self.leaves(is_solution, lines, value), True)
        for value in WRONG + [1, (3, 2), (3, 2, 7, 0), (3, 2, True), (3, 2, None), (1, 1, 1), (2, 3, 0), [], (), [[3, 2, 7]],
                              (False, 0, 0), "000", Form([[1]])]:
            self.assertIs(is_solution(lines, value), False)
        self.assertIs(is_solution(equations=[[1, 1], [1, -1]], value=[0, 0]), True)
        self.assertIs(is_solution([[1, 1], [1, -1]], [1, -1]), False)
        self.assertIs(is_solution([[1, 1], [2, 2], [1, 0]], [1, -1]), False)
        self.assertIs(is_solution([[0, 0]], [1, -1]), True)
        self.assertIs(is_solution([[0]], (5,)), True)
        self.assertIs(is_solution([[0]], 5), False)


class IsBasis(Case):
    def test_right_ones(self):
        lines = [[2, -3, 0]]
        for value in ([(3, 2, 0), (0, 0, 1)], [(0, 0, 1), (3, 2, 0)], ((-3, -2, 0), [0, 0, 1]), [[3, 2, 5], [0, 0, -1]],
                      [(3, 2, 1), (3, 2, 2)], [(3, 2, BIG), (0, 0, 1)], [(6, 4, 1), (3, 2, 1)]):
            self.assertIs(self.leaves(is_solution_basis, lines, value), True)
        self.assertIs(is_solution_basis(equations=[[0]], value=[(-1,)]), True)

    def test_wrong_ones(self):
        lines = [[2, -3, 0]]
        for value in ([(6, 4, 0), (0, 0, 1)], [(3, 2, 0), (0, 0, 2)], [(3, 2, 0)], [(0, 0, 1)], [], (),
                      [(3, 2, 0), (0, 0, 1), (3, 2, 1)], [(3, 2, 0), (0, 0, 1), (0, 0, 0)], [(3, 2, 0), (3, 2, 0)],
                      [(3, 2, 0), (0, 0, 0)], [(3, 2, 1), (3, 2, -1)], [(3, 2, 0), (0, 1, 1)], [(3, 2, 0), (0, 0, True)],
                      [(3, 2, 0), (0, 0)], [(3, 2), (0, 0)], [(3, 2, 0), None], [None, None], [3, 2, 0], (3, 2),
                      [(3, 2, 0), (-3, -2, 0)], {(3, 2, 0): 1, (0, 0, 1): 2}, [(3, 2, 1), (6, 4, 5)], [(3, 2, 0), "001"]):
            with self.subTest(value=value):
                self.assertIs(is_solution_basis(lines, value), False)
        for value in WRONG + [0, 1]:
            self.assertIs(is_solution_basis(lines, value), False)

    def test_noughts_alone(self):
        lines = [[5, 7], [1, 2]]
        self.assertIs(is_solution_basis(lines, []), True)
        self.assertIs(is_solution_basis(lines, ()), True)
        for value in WRONG + [[(0, 0)], [[]], [()], [(1, 1)]]:
            self.assertIs(is_solution_basis(lines, value), False)

    def test_changed_bases(self):
        source = random.Random(77)
        for lines in some_equations():
            told = solution_basis(lines)
            if not told:
                continue
            turned = [list(row) for row in told]
            source.shuffle(turned)
            turned[0] = [-number for number in turned[0]]
            self.assertIs(is_solution_basis(lines, turned), True)
            if len(turned) > 1:
                turned[1] = [x - 5 * y for x, y in zip(turned[1], turned[0])]
                self.assertIs(is_solution_basis(lines, turned), True)
                self.assertIs(is_solution_basis(lines, [turned[1]] + turned[1:]), False)
            self.assertIs(is_solution_basis(lines, turned[1:]), False)
            self.assertIs(is_solution_basis(lines, turned + turned[:1]), False)
            twice = [[2 * number for number in turned[0]]] + turned[1:]
            self.assertIs(is_solution_basis(lines, twice), False)

    def test_by_minors(self):
        lines = [[2, -3, 1]]
        found = {True: 0, False: 0}
        rows = [row for row in product(range(-3, 4), repeat=3) if solves(lines, row)]
        for pair in combinations(rows, 2):
            told = is_solution_basis(lines, list(pair))
            self.assertIs(told, basis_by_minors(lines, pair))
            found[told] += 1
        self.assertTrue(min(found.values()) > 10)


class WrongEquations(Case):
    def test_all_kinds(self):
        wrong = WRONG + [0, 1, [], (), [[]], [()], [1], [[1] * 7], [[1]] * 61, [[1, 2], [1]], [[1], [1, 2]], [[True]],
                         [[1, False]], [[1], None], [None], [[1, "2"]], ["12"], [[1, [2]]], [[1, 2], [1, None]],
                         [[1] * 6] * 59 + [[1] * 5], [[1] * 6] * 61, {0: [1]}, [{1}], Form([[1]])]
        for call in (solution_basis, lambda lines: is_solution(lines, None), lambda lines: is_solution_basis(lines, None)):
            self.fails_for_all(InvalidEquations, call, wrong)

    def test_as_many_as_may_be(self):
        self.assertEqual(len(solution_basis([[1] * 6] * 60)), 5)
        self.assertEqual(is_solution([[1, -1, 0, 0, 0, 0]] * 60, (BIG, BIG, 1, 2, 3, 4)), True)
