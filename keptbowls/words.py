"""Words: lists of the numbers of makers, and their products."""

from keptbowls.basics import check_many, is_integer, is_list
from keptbowls.errors import InvalidMakers, InvalidMany, InvalidWord
from keptbowls.tables import Table, idle, in_sequence

MOST_MAKERS = 4
MOST_LETTERS = 60
MOST_WALKED = 3


def check_makers(makers):
    """InvalidMakers unless it is a list of 1 to 4 Tables of one size."""
    if not is_list(makers) or not 1 <= len(makers) <= MOST_MAKERS:
        raise InvalidMakers(None)
    for position, maker in enumerate(makers):
        # The first maker is known to be a Table when its size is asked for.
        if not isinstance(maker, Table) or maker.size != makers[0].size:
            raise InvalidMakers(position)


def check_word(word, many):
    """InvalidWord unless it is a word of so many makers."""
    if not is_word(word, many):
        raise InvalidWord(word)


def is_word(value, many):
    """Whether the value is a word of so many makers."""
    if not is_integer(many) or not 1 <= many <= MOST_MAKERS:
        raise InvalidMany(many)
    if not is_list(value) or len(value) > MOST_LETTERS:
        return False
    return all([is_integer(letter) and 1 <= abs(letter) <= many for letter in value])


def product(makers, word):
    """The Table that is the word's product."""
    check_makers(makers)
    check_word(word, len(makers))
    told = idle(makers[0].size)
    for letter in word:
        told = told * _of_letter(makers, letter)
    return told


def shortened(word):
    """The word without neighbours that are contraries of one another."""
    check_word(word, MOST_MAKERS)
    kept = []
    for letter in word:
        if len(kept) > 0 and kept[-1] == -letter:
            kept.pop()
        else:
            kept.append(letter)
    return kept


def contrary_word(word):
    """The word from behind, each letter as its contrary."""
    check_word(word, MOST_MAKERS)
    return [-letter for letter in word[::-1]]


def words_to(makers, many):
    """The sorted list of the products of words of at most many letters, each once."""
    check_makers(makers)
    check_many(many, MOST_WALKED)
    steps = [step for _, step in letter_steps(makers)]
    edge = [idle(makers[0].size)]
    found = {edge[0].rows: edge[0]}
    for _ in range(many):
        edge = _new_products(edge, steps, found)
        for table in edge:
            found[table.rows] = table
    return in_sequence(list(found.values()))


def letter_steps(makers):
    """Pairs of each letter and the Table for which it stands."""
    letters = [letter for number in range(1, len(makers) + 1) for letter in (number, -number)]
    return [(letter, _of_letter(makers, letter)) for letter in letters]


def _of_letter(makers, letter):
    maker = makers[abs(letter) - 1]
    return maker if letter > 0 else maker.undone()


def _new_products(edge, steps, found):
    """The products of the edge with the steps that are not yet found, each once."""
    fresh = {}
    for table in edge:
        for step in steps:
            further = table * step
            if further.rows not in found:
                fresh[further.rows] = further
    return list(fresh.values())
