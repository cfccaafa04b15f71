"""Members of a finite lot that are turned into one another, and their orders."""

from keptbowls.lots import check_finite, check_lot, check_member
from keptbowls.orders import order
from keptbowls.tables import in_sequence, turned


def turned_members(lot, member):
    """The sorted list of all members into which members of the lot turn this one."""
    check_lot(lot)
    check_member(lot, member)
    found = {}
    for other in lot.members():
        told = turned(member, other)
        found[told.rows] = told
    return in_sequence(list(found.values()))


def classes(lot):
    """The sorted list of the classes, each a sorted list of Tables."""
    check_lot(lot)
    told, seen = [], {}
    for member in lot.members():
        # Members come sorted, so each class comes up by its first member: the list is sorted, too.
        if member.rows not in seen:
            told.append(turned_members(lot, member))
            for one in told[-1]:
                seen[one.rows] = True
    return told


def middle(lot):
    """The sorted list of the members that go together with all members."""
    check_lot(lot)
    return [member for member in lot.members() if _goes_with_all(lot, member)]


def goes_together(lot):
    """Whether each two members of the lot go together."""
    check_lot(lot)
    check_finite(lot)
    return all([_goes_with_all(lot, maker) for maker in lot.makers()])


def orders_of(lot):
    """The dict from the orders that members have, rising, to how many have them."""
    check_lot(lot)
    told = [order(member) for member in lot.members()]
    return {often: told.count(often) for often in sorted(set(told))}


def _goes_with_all(lot, table):
    """Whether the table goes together with all makers, so with all members."""
    return all([table * maker == maker * table for maker in lot.makers()])
