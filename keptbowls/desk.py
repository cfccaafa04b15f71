"""A desk that keeps things, notes claims about them, and does what commands say."""

from keptbowls.answers import answer
from keptbowls.basics import is_list
from keptbowls.claims import contrary_of, is_claim
from keptbowls.commands import DEEDS, is_deed, parts_of
from keptbowls.deeds import stock_behind
from keptbowls.errors import BowlError, CommandFailed, InvalidCommand, InvalidLines, InvalidPaper, LimitError
from keptbowls.errors import MissingError, NothingToRedo, NothingToUndo, StateError, TooMany, UnknownName
from keptbowls.stocks import Held, Stock, changes, check_label, check_names, claim_told, is_paper_now, told_states

MOST_DEEDS = 300


class Desk:
    """Things under names, claims about them under labels, and the deeds that led there."""

    def __init__(self):
        # All that is held is one value that never changes: so it can be put back as it was.
        self._held = Held(Stock({}, {}, {}), {}, [], [])

    @property
    def names(self):
        """The sorted list of the names of what is kept."""
        return sorted(list(self._held.stock.things))

    @property
    def labels(self):
        """The sorted list of the labels of the claims that are noted."""
        return sorted(list(self._held.stock.claims))

    def __len__(self):
        return len(self._held.done)

    def __contains__(self, name):
        return isinstance(name, str) and name in self._held.stock.things

    def __getitem__(self, name):
        if not isinstance(name, str) or name not in self._held.stock.things:
            raise UnknownName(name)
        return self._held.stock.things[name]

    def __iter__(self):
        raise TypeError("a desk is not iterated over")

    def __call__(self, command):
        return self.do(command)

    def claim_of(self, label):
        """The claim as a tuple, of what is kept now; None while its state is gone."""
        stock = self._held.stock
        check_label(stock, label)
        claim = claim_told(stock.things, stock.claims[label])
        return claim if is_claim(claim) else None

    def do(self, command):
        """Does the command; returns the answer, a string."""
        parts = parts_of(command)
        if parts is None:
            raise InvalidCommand(command)
        word = command.split(" ")[0]
        check_names(self._held.stock, parts)
        if word == "undo":
            return self._undo()
        if word == "redo":
            return self._redo()
        if word not in DEEDS:
            return answer(self._held.stock, word, parts)
        ahead = self._held
        later = stock_behind(ahead.stock, word, parts)
        if len(ahead.done) == MOST_DEEDS:
            raise TooMany("deeds", MOST_DEEDS)
        self._held = Held(later, ahead.papers, ahead.done + [(command, ahead.stock)], [])
        return told_states(changes(ahead.stock, later))

    def do_all(self, *commands):
        """Does all commands, or none if one fails; returns the list of the answers."""
        ahead, answers = self._held, []
        for position, command in enumerate(commands):
            try:
                answers.append(self.do(command))
            except (BowlError, MissingError, StateError, LimitError) as error:
                self._held = ahead
                raise CommandFailed(position) from error
        return answers

    def attempt(self, *commands):
        """The answers of do_all, behind which all is as before."""
        ahead = self._held
        answers = self.do_all(*commands)
        self._held = ahead
        return answers

    def attach(self, label, paper):
        """Keeps a paper of the label's claim, or of its contrary, with the label."""
        held = self._held
        check_label(held.stock, label)
        words = held.stock.claims[label]
        shown = [told for told in (words, _contrary_words(words)) if is_paper_now(held.stock, told, paper)]
        if len(shown) == 0:
            raise InvalidPaper(paper)
        papers = {key: held.papers[key] for key in held.papers}
        papers[label] = (words, shown[0], _copied(paper))
        self._held = Held(held.stock, papers, held.done, held.taken_back)

    def fits(self, label):
        """Whether a paper is kept with the label for its words, and is one still."""
        held = self._held
        check_label(held.stock, label)
        if label not in held.papers:
            return False
        words, shown, paper = held.papers[label]
        return words == held.stock.claims[label] and is_paper_now(held.stock, shown, paper)

    def lines(self):
        """The list of the lines of the deeds that are not taken back."""
        return [line for line, _ in self._held.done]

    def copy(self):
        """A desk with the same, that goes on by itself."""
        other = Desk()
        other._held = self._held
        return other

    @classmethod
    def again(cls, lines):
        """A desk that has done these deeds."""
        if not is_list(lines):
            raise InvalidLines(None)
        for position, line in enumerate(lines):
            if not is_deed(line):
                raise InvalidLines(position)
        desk = cls()
        desk.do_all(*lines)
        return desk

    def _undo(self):
        held = self._held
        if len(held.done) == 0:
            raise NothingToUndo()
        line, ahead = held.done[-1]
        self._held = Held(ahead, held.papers, held.done[:-1], held.taken_back + [(line, held.stock)])
        return line

    def _redo(self):
        held = self._held
        if len(held.taken_back) == 0:
            raise NothingToRedo()
        line, behind = held.taken_back[-1]
        self._held = Held(behind, held.papers, held.done + [(line, held.stock)], held.taken_back[:-1])
        return line


class Trial:
    """A block behind which a desk is as it was ahead of it."""

    def __init__(self, desk):
        self._desk = desk
        self._ahead = None

    def __enter__(self):
        self._ahead = self._desk._held
        return self._desk

    def __exit__(self, kind, value, trace):
        self._desk._held = self._ahead


def tried(desk, action):
    """What the action returns for the desk, which is behind it as it was."""
    with Trial(desk) as held:
        return action(held)


def _contrary_words(words):
    return (contrary_of(words[0]),) + words[1:]


def _copied(paper):
    """The paper, with lists and tuples of its own: a list that was passed may change later."""
    if isinstance(paper, list):
        return [_copied(part) for part in paper]
    return tuple([_copied(part) for part in paper]) if isinstance(paper, tuple) else paper
