"""Which members of a finite lot make it, and what else members make."""

from keptbowls.basics import is_list
from keptbowls.errors import InvalidMembers, TooMany
from keptbowls.lots import Lot, check_finite, check_lot
from keptbowls.tables import idle
from keptbowls.words import MOST_MAKERS

MOST_MADE = 16
MOST_DIVIDED = 12


def made_by(lot, members):
    """The Lot with these members as makers."""
    check_lot(lot)
    check_finite(lot)
    if not _is_few(members):
        raise InvalidMembers(None)
    for position, member in enumerate(members):
        if not lot.has(member):
            raise InvalidMembers(position)
    return Lot(members)


def fewest_makers(lot):
    """How many members can make the lot, as few as can be."""
    return len(some_makers(lot))


def some_makers(lot):
    """As few members as can make the lot, a list."""
    _check_total(lot, MOST_MADE)
    members = lot.members()
    times, made = _times(members), _made_by_none(members)
    whole = tuple(range(len(members)))
    while whole not in made:
        made = _made_by_one_more(times, made)
    return [members[at] for at in made[whole]]


def is_makers(lot, value):
    """Whether the value is a list of 1 to 4 members that make the lot."""
    check_lot(lot)
    check_finite(lot)
    if not _is_few(value) or not all([lot.has(one) for one in value]):
        return False
    return Lot(value).total == lot.total


def sub_lots(lot):
    """How many unlike lists of members the lots have that one or two members of the lot make."""
    _check_total(lot, MOST_DIVIDED)
    members = lot.members()
    times, made = _times(members), _made_by_none(members)
    # The idle table is a member: so what one member makes is made by two of them, too.
    for _ in range(2):
        made = _made_by_one_more(times, made)
    return len(made)


def _check_total(lot, most):
    check_lot(lot)
    check_finite(lot)
    if lot.total > most:
        raise TooMany("members", most)


def _is_few(value):
    """Whether the value is a list of as many elements as a lot can have makers."""
    return is_list(value) and 1 <= len(value) <= MOST_MAKERS


def _times(members):
    """For each two positions of members the position of their product: so each is reckoned only once."""
    spots = {member.rows: at for at, member in enumerate(members)}
    return [[spots[(one * other).rows] for other in members] for one in members]


def _made_by_none(members):
    """No positions, by the position of what they make, the idle table alone."""
    return {(members.index(idle(members[0].size)),): []}


def _made_by_one_more(times, made):
    """Positions of makers by the sorted positions of what they make, with one maker more than there were."""
    told = {}
    for positions, chosen in made.items():
        for at in range(len(times)):
            told[_grown(times, positions, chosen + [at])] = chosen + [at]
    return told


def _grown(times, positions, chosen):
    """The sorted positions of what the chosen ones make, who make those at these positions and maybe more."""
    line = list(positions)
    found, at = {spot: True for spot in line}, 0
    while at < len(line):
        for other in chosen:
            spot = times[line[at]][other]
            if spot not in found:
                found[spot] = True
                line.append(spot)
        at += 1
    return tuple(sorted(line))
