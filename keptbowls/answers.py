"""Answers to the questions that a desk is asked."""

from keptbowls.claims import kind_of
from keptbowls.classes import classes, middle, orders_of
from keptbowls.degrees import degree_counts
from keptbowls.forms import corners
from keptbowls.kept import kept_rank
from keptbowls.least import steps_of
from keptbowls.orders import order
from keptbowls.parts import same_members
from keptbowls.plane import plane_kind
from keptbowls.rounds import rest_rounds
from keptbowls.shorts import short_rows
from keptbowls.stocks import things_told, told_states
from keptbowls.texts import told_numbers, told_rows


def answer(stock, word, parts):
    """The answer to the question, whose names and labels are checked."""
    if word == "names":
        return _with_blanks(sorted(list(stock.things))) if len(stock.things) > 0 else "-"
    if word == "states":
        return told_states(stock.states)
    if word == "state":
        return stock.states[parts[0][1]]
    if word == "claimed":
        return _with_blanks(stock.claims[parts[0][1]])
    told = things_told(stock, parts)
    one, other = told[0], told[-1]
    if word == "shown":
        return _shown(one)
    if word in ("order", "trace", "rests", "point"):
        return _of_table(word, one, other)
    if word in ("worth", "corners", "short", "steps"):
        return _of_form(word, one, other)
    return _of_lot(word, one, other)


def _shown(thing):
    if kind_of(thing) == "lot":
        return _with_blanks(["lot"] + [told_rows(maker.rows) for maker in thing.makers()])
    return f"{kind_of(thing)} {told_rows(thing.rows)}"


def _of_table(word, table, other):
    if word == "order":
        often = order(table)
        return "none" if often is None else str(often)
    if word == "trace":
        return str(table.trace)
    if word == "rests":
        return told_rows(table.rests(other))
    return told_numbers(table.lead(other))


def _of_form(word, form, other):
    if word == "worth":
        return str(form.worth(other))
    if word == "corners":
        return _with_blanks(corners(form))
    if word == "short":
        return str(len(short_rows(form, other)))
    return _with_blanks(steps_of(form))


def _of_lot(word, lot, other):
    if word == "count":
        return str(lot.total) if lot.is_finite else "endless"
    if word == "kept":
        return str(kept_rank(lot.makers()))
    if word == "product":
        return told_rows(lot.product(other).rows)
    if word == "orders":
        told = orders_of(lot)
        return _with_blanks([f"{often}:{many}" for often, many in told.items()])
    if word == "middle":
        return str(len(middle(lot)))
    if word == "classes":
        return str(len(classes(lot)))
    if word == "kind":
        return plane_kind(lot)
    if word == "rounds":
        return str(rest_rounds(lot, other))
    if word == "degrees":
        return _with_blanks(degree_counts(lot, other))
    return _yes_or_no(lot.has(other) if word == "holds" else same_members(lot, other))


def _with_blanks(values):
    return " ".join([str(value) for value in values])


def _yes_or_no(told):
    return "yes" if told else "no"
