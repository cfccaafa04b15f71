"""How many rows of each worth a bowl has."""

from keptbowls.basics import check_many
from keptbowls.bowls import check_bowl
from keptbowls.shorts import rows_to
from keptbowls.tables import check_alike

MOST_COUNTED = 400
MOST_ROWS = 2000


def worth_counts(bowl, many):
    """The list of how many rows have the worth 0, 1, .., many."""
    check_bowl(bowl)
    check_many(many, MOST_COUNTED)
    return _counted(bowl, many)


def unlike_worth(bowl, goal, many):
    """The least worth of at most many of which both bowls have unlike many rows, None without one."""
    check_bowl(bowl)
    check_bowl(goal)
    check_many(many, MOST_COUNTED)
    check_alike(bowl, goal)
    counts, others = _counted(bowl, many), _counted(goal, many)
    unlike = [worth for worth in range(many + 1) if counts[worth] != others[worth]]
    return unlike[0] if len(unlike) > 0 else None


def _counted(bowl, many):
    counts = [0] * (many + 1)
    for row in rows_to(bowl, many, MOST_ROWS):
        counts[bowl.worth(row)] += 1
    return counts
