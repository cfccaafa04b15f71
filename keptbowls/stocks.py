"""What a desk has at one time: never changed, only put in the place of what was there before."""

from keptbowls.claims import is_paper_of, kind_of, truth_of
from keptbowls.errors import InvalidClaim, LabelTaken, NameTaken, TooMany, UnknownLabel, UnknownName, WrongThing

# The kinds of what may be kept under a name, by the shape of a command's part.
LET = {"table": ("table",), "form": ("form",), "lot": ("lot",), "moved": ("table", "lot"),
       "any": ("table", "form", "lot")}


class Stock:
    """The things by their names; of each label the words of its claim, told as a tuple, and the state."""

    def __init__(self, things, claims, states):
        self.things = things
        self.claims = claims
        self.states = states


class Held:
    """A Stock, papers by labels, and lines of deeds, each beside the Stock ahead of it, or behind it if taken back."""

    def __init__(self, stock, papers, done, taken_back):
        self.stock = stock
        self.papers = papers
        self.done = done
        self.taken_back = taken_back


def check_names(stock, parts):
    """What is asked of the names and labels in the parts of a command."""
    for shape, told in parts:
        if shape == "new" and told in stock.things:
            raise NameTaken(told)
        if shape == "fresh" and told in stock.claims:
            raise LabelTaken(told)
    named = [(shape, told) for shape, told in _one_by_one(parts) if shape in LET]
    for _, name in named:
        if name not in stock.things:
            raise UnknownName(name)
    for shape, told in parts:
        if shape == "label":
            check_label(stock, told)
    for shape, name in named:
        if kind_of(stock.things[name]) not in LET[shape]:
            raise WrongThing(name)


def check_label(stock, label):
    """UnknownLabel unless a claim is noted under the label, which may be any value."""
    if not isinstance(label, str) or label not in stock.claims:
        raise UnknownLabel(label)


def things_told(stock, parts):
    """The list of what the parts tell: of names what is kept under them."""
    told = []
    for shape, value in parts:
        if shape == "tables":
            told.append([stock.things[name] for name in value])
        else:
            told.append(stock.things[value] if shape in LET else value)
    return told


def with_thing(stock, name, thing):
    """The Stock with the thing under the name."""
    things = {key: stock.things[key] for key in stock.things}
    things[name] = thing
    return _with_things(stock, things, name)


def without_thing(stock, name):
    """The Stock with nothing under the name."""
    return _with_things(stock, {key: stock.things[key] for key in stock.things if key != name}, name)


def with_claim(stock, label, words):
    """The Stock with the claim of these words under the label."""
    claims = {key: stock.claims[key] for key in stock.claims}
    states = {key: stock.states[key] for key in stock.states}
    claims[label], states[label] = words, _state(stock.things, words)
    return Stock(stock.things, claims, states)


def without_claim(stock, label):
    """The Stock with no claim under the label."""
    claims = {key: stock.claims[key] for key in stock.claims if key != label}
    return Stock(stock.things, claims, {key: stock.states[key] for key in claims})


def claim_told(things, words):
    """The tuple of the claim's word and what is kept under the names behind it, None where nothing is."""
    return words[:1] + tuple([things.get(name) for name in words[1:]])


def is_paper_now(stock, words, value):
    """Whether the value is a paper of the claim of these words, as things are."""
    try:
        return is_paper_of(claim_told(stock.things, words), value)
    except (InvalidClaim, TooMany):
        return False


def told_states(states):
    """The labels with their states, sorted, as answers tell them."""
    return ", ".join([f"{label} {states[label]}" for label in sorted(list(states))]) if len(states) > 0 else "-"


def changes(stock, later):
    """The states of the later Stock that are others than those ahead."""
    return {label: state for label, state in later.states.items() if stock.states.get(label) != state}


def _one_by_one(parts):
    """The parts, with each of several names by itself."""
    told = []
    for shape, value in parts:
        told.extend([("table", name) for name in value] if shape == "tables" else [(shape, value)])
    return told


def _with_things(stock, things, name):
    """The Stock with these things, of which only what stands under the name may be another one."""
    states = {}
    for label, words in stock.claims.items():
        states[label] = _state(things, words) if name in words[1:] else stock.states[label]
    return Stock(things, stock.claims, states)


def _state(things, words):
    truth = truth_of(claim_told(things, words))
    if truth is None:
        return "gone"
    return "true" if truth else "false"
