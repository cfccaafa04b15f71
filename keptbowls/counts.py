"""How many rows of each worth a bowl has."""

from keptbowls.basics import check_many
from keptbowls.bowls import check_bowl
from keptbowls.shorts import rows_to
from keptbowls.tables import check_alike

MOST_COUNTED = 400
MOST_ROWS = 2000


def worth_counts(bowl, many):
    """The list of how many rows have the worth 0, 1, .., many."""
    check_bowl(bowl)
    check_many(many, MOST_COUNTED)
    return counted(bowl, many, MOST_ROWS)


def unlike_worth(bowl, goal, many):
    """The least worth of at most many of which both bowls have unlike many rows, None without one."""
    check_bowl(bowl)
    check_bowl(goal)
    check_many(many, MOST_COUNTED)
    check_alike(bowl, goal)
    return first_unlike(counted(bowl, many, MOST_ROWS), counted(goal, many, MOST_ROWS))


def counted(bowl, many, most):
    """The list of how many rows have the worth 0, 1, .., many; TooMany if there are more than most of them."""
    counts = [0] * (many + 1)
    for row in rows_to(bowl, many, most):
        counts[bowl.worth(row)] += 1
    return counts


def first_unlike(counts, others):
    """The first position at which both lists have unlike numbers, None without one."""
    unlike = [at for at, number in enumerate(counts) if number != others[at]]
    return unlike[0] if len(unlike) > 0 else None
