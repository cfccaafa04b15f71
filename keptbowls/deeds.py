"""Deeds: what a desk has behind each of them."""

from keptbowls.claims import is_claim
from keptbowls.errors import InvalidClaim, InvalidPosition, TooMany
from keptbowls.forms import Form
from keptbowls.lots import Lot
from keptbowls.parts import turned_lot
from keptbowls.stocks import claim_told, things_told, with_claim, with_thing, without_claim, without_thing
from keptbowls.tables import Table, turned
from keptbowls.verdicts import kept_bowl

MOST_NAMES = 10
MOST_LABELS = 12


def stock_behind(stock, word, parts):
    """The Stock behind the deed, whose names and labels are checked."""
    name = parts[0][1]
    if word == "drop":
        return without_thing(stock, name)
    if word == "forget":
        return without_claim(stock, name)
    if word == "claim":
        return _with_claim(stock, name, tuple([told for _, told in parts[1:]]))
    told = things_told(stock, parts[1:] if parts[0][0] == "new" else parts)
    later = with_thing(stock, name, _made(word, told[0], told[-1]))
    if len(later.things) > MOST_NAMES:
        raise TooMany("names", MOST_NAMES)
    return later


def _with_claim(stock, label, words):
    claim = claim_told(stock.things, words)
    if not is_claim(claim):
        raise InvalidClaim(claim)
    later = with_claim(stock, label, words)
    if len(later.claims) > MOST_LABELS:
        raise TooMany("labels", MOST_LABELS)
    return later


def _made(word, one, other):
    """What is kept behind the deed under the name ahead of all others."""
    if word == "table":
        return Table(one)
    if word == "form":
        return Form(one)
    if word == "lot":
        return Lot(one)
    if word == "times":
        return one * other
    if word == "undone":
        return one.undone()
    if word == "power":
        return one.power(other)
    if word == "plus":
        return one + other
    if word == "bowl":
        return kept_bowl(one)
    if word == "turn":
        return turned(one, other) if isinstance(one, Table) else turned_lot(one, other)
    if word == "lead":
        return one.led(other)
    if word == "more":
        return Lot(one.makers() + [other])
    if word == "less":
        return _less(one, other)
    # What is left is a copy: things never change, so it is the thing itself.
    return one


def _less(lot, position):
    makers = lot.makers()
    if position >= len(makers):
        raise InvalidPosition(position)
    return Lot(makers[:position] + makers[position + 1:])
