"""Lots within lots, and lots made of other lots."""

from keptbowls.errors import NotWithin, TooMany
from keptbowls.lots import Lot, check_finite, check_lot
from keptbowls.tables import beside, check_alike, idle, in_sequence, turned
from keptbowls.words import MOST_MAKERS


def same_members(lot, other_lot):
    """Whether both lots have the same members."""
    _check_both(lot, other_lot)
    return _inside(lot, other_lot) and lot.total == other_lot.total


def is_within(sub, lot):
    """Whether all members of sub are members of the lot."""
    _check_both(sub, lot)
    return _inside(sub, lot)


def shares(lot, sub):
    """The sorted list of the shares, each a sorted list of Tables."""
    _check_both(lot, sub)
    if not _inside(sub, lot):
        raise NotWithin()
    told = {}
    for member in lot.members():
        share = in_sequence([member * other for other in sub.members()])
        # Members come sorted, so each share comes up by its first member: the list is sorted, too.
        told[share[0].rows] = share
    return list(told.values())


def turned_lot(lot, table):
    """The Lot of the makers, turned by the table."""
    check_lot(lot)
    return Lot([turned(maker, table) for maker in lot.makers()])


def beside_lots(lot, other_lot):
    """The Lot of both lots beside one another."""
    check_lot(lot)
    check_lot(other_lot)
    if lot.size + other_lot.size > 3:
        raise TooMany("columns", 3)
    if len(lot.makers()) + len(other_lot.makers()) > MOST_MAKERS:
        raise TooMany("makers", MOST_MAKERS)
    upper = [beside(maker, idle(other_lot.size)) for maker in lot.makers()]
    lower = [beside(idle(lot.size), maker) for maker in other_lot.makers()]
    return Lot(upper + lower)


def _check_both(one, other):
    """What is asked of two lots that are told of together."""
    check_lot(one)
    check_lot(other)
    check_alike(one, other)
    check_finite(one)
    check_finite(other)


def _inside(sub, lot):
    return all([lot.has(maker) for maker in sub.makers()])
