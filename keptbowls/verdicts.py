"""Papers that tell finite lots from endless ones."""

from keptbowls.basics import is_integer, is_list
from keptbowls.bowls import is_bowl
from keptbowls.forms import Form, sum_form
from keptbowls.kept import keeps
from keptbowls.lots import MOST_MEMBERS, check_lot, walked
from keptbowls.orders import order, rest_order
from keptbowls.tables import check_modulus
from keptbowls.words import is_word

MOST_TIMES = 100


def kept_bowl(lot):
    """The kept bowl of a finite lot, a Form."""
    check_lot(lot)
    plain = sum_form(lot.size)
    told = plain.times(0)
    for member in lot.members():
        told = told + plain.led(member)
    return told.single()


def is_bowl_paper(lot, value):
    """Whether the value is a bowl that all makers of the lot keep."""
    check_lot(lot)
    if not isinstance(value, Form) or value.size != lot.size or not is_bowl(value):
        return False
    return all([keeps(maker, value) for maker in lot.makers()])


def endless_paper(lot):
    """An endless paper, a list of words; None if the lot is finite."""
    check_lot(lot)
    if lot.is_finite:
        return None
    return list(walked(lot.makers()).values())


def is_endless_paper(lot, value):
    """Whether the value is an endless paper of the lot."""
    check_lot(lot)
    if not is_list(value):
        return False
    if len(value) == 2:
        return isinstance(value, tuple) and _is_slant(lot, value[0], value[1])
    return len(value) == MOST_MEMBERS[lot.size - 1] + 1 and _are_unlike(lot, value)


def rest_members(lot, modulus):
    """The sorted list of the rests that members leave, each once."""
    check_lot(lot)
    check_modulus(modulus)
    found = {member.rests(modulus): True for member in lot.members()}
    return sorted(list(found))


def _is_slant(lot, word, times):
    """Whether the word's product, to the power times, has the idle table's rests by 3 and is not idle."""
    if not is_word(word, len(lot.makers())) or not is_integer(times) or not 1 <= times <= MOST_TIMES:
        return False
    table = lot.product(word)
    # What has an order has it as its rest order, too: so such a power would be idle.
    return order(table) is None and times % rest_order(table) == 0


def _are_unlike(lot, words):
    """Whether these are words whose products are all unlike."""
    if not all([is_word(word, len(lot.makers())) for word in words]):
        return False
    found = {lot.product(word).rows: True for word in words}
    return len(found) == len(words)
