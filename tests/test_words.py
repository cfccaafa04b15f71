import random

from common import BIG, WRONG, Case, some_tables, wrong_makers
from keptbowls.errors import InvalidMakers, InvalidMany, InvalidWord
from keptbowls.tables import Table, idle
from keptbowls.words import contrary_word, is_word, product, shortened, words_to

SIX, SLANT = Table([[0, -1], [1, 1]]), Table([[1, 1], [0, 1]])
FOUR = some_tables(3, 4)


def some_words(many, letters, seed=3):
    source = random.Random(seed)
    return [[source.choice([-1, 1]) * source.randint(1, letters) for _ in range(source.randint(0, 12))]
            for _ in range(many)]


class Words(Case):
    def test_is_word(self):
        for value, many in (([], 1), ((), 4), ([1], 1), ([-1], 1), ([1, -2, 2], 2), ((4, -4, 3), 4), ([1] * 60, 1)):
            self.assertIs(is_word(value, many), True)
        for value, many in (([0], 1), ([2], 1), ([-2], 1), ([5], 4), ([-5], 4), ([1, 0], 4), ([True], 1), ([1] * 61, 1),
                            ([1, None], 2), ([[1]], 2), ("11", 1), ([BIG], 4), ((1, False), 2), ([1, -3], 2)):
            self.assertIs(is_word(value, many), False)
        for value in WRONG + [0, 1, SIX]:
            self.assertIs(is_word(value=value, many=4), False)

    def test_is_word_many(self):
        for value in ([1], None):
            self.fails_for_all(InvalidMany, lambda many: is_word(value, many), WRONG + [0, 5, -1, BIG, [1]])

    def test_product(self):
        self.assertEqual(product([SIX, SLANT], [1, -2]), Table([[0, -1], [1, 0]]))
        self.assertEqual(product(makers=(SIX,), word=()), idle(2))
        self.assertEqual(product(FOUR, []), idle(3))
        for word in some_words(40, 4):
            told = idle(3)
            for letter in word:
                told = told * (FOUR[letter - 1] if letter > 0 else FOUR[-letter - 1].undone())
            self.assertEqual(self.leaves(product, FOUR, word), told)
            self.assertEqual(product(tuple(FOUR), tuple(word)), told)
        self.assertEqual(product([SLANT], [1] * 60), SLANT.power(60))
        self.assertEqual(product([SLANT], [-1] * 60), SLANT.power(-60))
        self.assertEqual(product([idle(1), Table([[-1]])], [2, 1, 2, 2]), Table([[-1]]))

    def test_wrong_makers(self):
        for makers, position in wrong_makers():
            with self.subTest(makers=makers):
                self.fails(InvalidMakers, product, makers, None, position=position)
                self.fails(InvalidMakers, words_to, makers, None, position=position)

    def test_wrong_words(self):
        wrong = WRONG + [1, [0], [3], [-3], [1, True], [1] * 61, (1, 2, 3), [[1]], [None], SIX]
        self.fails_for_all(InvalidWord, lambda word: product([SIX, SLANT], word), wrong)
        self.fails(InvalidWord, product, [SIX], [2], value=[2])
        product([SIX, SIX, SIX, SIX], [4])

    def test_shortened(self):
        self.assertEqual(shortened([1, 2, -2, -1, -1]), [-1])
        self.assertEqual(shortened(word=(1, -1)), [])
        self.assertEqual(shortened([]), [])
        self.assertEqual(shortened([1, 1, -2, 1]), [1, 1, -2, 1])
        self.assertEqual(shortened([1, -1] * 30), [])
        self.assertEqual(shortened([-4, 3, -3, 4, 4]), [4])
        for word in some_words(60, 2):
            told = self.leaves(shortened, word)
            self.assertIs(type(told), list)
            self.assertTrue(all(one != -other for one, other in zip(told, told[1:])))
            self.assertEqual(product(FOUR, told), product(FOUR, word))
            self.assertEqual(told, by_last_pair(word))

    def test_contrary_word(self):
        self.assertEqual(contrary_word([1, -2]), [2, -1])
        self.assertEqual(contrary_word(word=(1, 1, 3)), [-3, -1, -1])
        self.assertEqual(contrary_word([]), [])
        for word in some_words(30, 4):
            told = self.leaves(contrary_word, word)
            self.assertIs(type(told), list)
            self.assertEqual(product(FOUR, told), product(FOUR, word).undone())

    def test_wrong_words_of_four_makers(self):
        for call in (shortened, contrary_word):
            self.fails_for_all(InvalidWord, call, WRONG + [1, [0], [5], [-5], [1, False], [1] * 61, [[1]], [4, "1"]])
            self.assertEqual(len(call([4] * 60)), 60)
            self.same_again(call, [1, 2, 3])
            word = [1, 2]
            self.assertIsNot(call(word), word)


class ShortWords(Case):
    def test_by_all_words(self):
        for makers in ([SIX], [SIX, SLANT], (SLANT, idle(2)), FOUR, [Table([[-1]])], some_tables(3, 3, seed=8)):
            letters = [letter for at in range(1, len(makers) + 1) for letter in (at, -at)]
            words = [[]]
            for many in range(4):
                rows = sorted({product(makers, word).rows for word in words})
                told = words_to(makers, many)
                self.assertIs(type(told), list)
                self.assertEqual(told, [Table(one) for one in rows])
                words = words + [word + [letter] for word in words if len(word) == many for letter in letters]

    def test_examples(self):
        self.assertEqual(words_to([SIX], 1), [SIX, idle(2), SIX.undone()])
        self.assertEqual(words_to(makers=[idle(3)], many=3), [idle(3)])
        self.assertEqual(words_to([SIX], 0), [idle(2)])
        self.assertEqual(len(words_to([SIX], 3)), 6)
        self.same_again(words_to, [SIX, SLANT], 2)
        makers = [SIX, SLANT]
        self.assertEqual(len(self.leaves(words_to, makers, 3)), len(words_to(tuple(makers), 3)))
        far = Table([[1, BIG], [0, 1]])
        self.assertEqual([one.rows[0][1] for one in words_to([far], 3)], [BIG * at for at in range(-3, 4)])

    def test_many(self):
        self.fails_for_all(InvalidMany, lambda many: words_to([SIX], many), WRONG + [-1, 4, BIG, [1], SIX])


def by_last_pair(word):
    """The word shortened, always by the last pair that can be taken out."""
    told = list(word)
    while True:
        pairs = [at for at in range(len(told) - 1) if told[at] == -told[at + 1]]
        if not pairs:
            return told
        del told[pairs[-1]:pairs[-1] + 2]
