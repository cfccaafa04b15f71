import random

from common import WRONG, Case
from keptbowls.claims import contrary, is_claim, is_paper_of, is_true, paper_of
from keptbowls.desk import Desk
from keptbowls.errors import InvalidPaper, UnknownLabel, UnlikeSizes
from keptbowls.forms import Form, sum_form
from keptbowls.lots import Lot
from keptbowls.tables import Table, idle
from test_desk import CLAIMS, DEEDS, HEXAGON, LOT, SLANT, STEP, full, seen

# A deed that makes the claim of each label untrue, or true.
TURNED = {"f": ["more l s"], "e": ["less e 1"], "b": ["drop g", "form g 1,2;2,1"], "p": ["drop p", "form p 2,1;1,2"], "k": ["lead g s"], "x": ["drop s", "copy s a"],
          "i": ["less l 1"], "o": ["copy z m", "drop s", "copy s z"], "h": ["drop a", "copy a s"], "n": ["drop s", "copy s m"]}


class Papers(Case):
    def test_paper_of_each_claim(self):
        desk = full(*CLAIMS)
        for label in desk.labels:
            claim = desk.claim_of(label)
            shown = claim if is_true(claim) else contrary(claim)
            self.assertIs(desk.fits(label), False)
            paper = paper_of(shown)
            self.assertIsNone(self.leaves(desk.attach, label, paper))
            self.assertIs(desk.fits(label=label), True)
            self.assertIs(desk.fits(label), True)
        self.assertEqual([len(desk), desk.lines()], [len(DEEDS + CLAIMS), DEEDS + CLAIMS])
        self.assertEqual([desk.fits(label) for label in desk.labels], [True] * 12)

    def test_fitting_as_deeds_come_and_are_taken_back(self):
        for label, deeds in TURNED.items():
            desk = full("drop k", "drop w", "drop t", *[command for command in CLAIMS if command.split(" ")[1] == label])
            truth = is_true(desk.claim_of(label))
            desk.attach(label, paper_of(desk.claim_of(label)))
            desk.do_all(*deeds)
            self.assertIs(is_true(desk.claim_of(label)), not truth)
            self.assertIs(desk.fits(label), False)
            # Of the contrary, in the place of the one that was kept.
            paper = paper_of(contrary(desk.claim_of(label)))
            behind = desk.copy()
            behind.attach(label=label, paper=paper)
            self.assertEqual([behind.fits(label), desk.fits(label)], [True, False])
            for one in (desk, behind):
                one.do_all(*["undo"] * len(deeds))
            self.assertEqual([desk.fits(label), behind.fits(label)], [True, False])
            for one in (desk, behind):
                one.do_all(*["redo"] * len(deeds))
            self.assertEqual([desk.fits(label), behind.fits(label)], [False, True])

    def test_gone(self):
        desk = full("claim f finite l")
        desk.attach("f", HEXAGON)
        desk.do("drop l")
        self.assertIs(desk.fits("f"), False)
        for value in (HEXAGON, None, [], 1):
            self.fails(InvalidPaper, desk.attach, "f", value, value=value)
        desk.do("copy l a")
        self.assertIs(desk.fits("f"), False)
        self.fails(InvalidPaper, desk.attach, "f", HEXAGON, value=HEXAGON)
        desk.do_all("drop l", "lot l m")
        # Another lot, which keeps the bowl as well.
        self.assertIs(desk.fits("f"), True)
        desk.do_all("undo", "undo")
        self.assertIs(desk.fits("f"), False)
        desk.do_all("undo", "undo")
        self.assertIs(desk.fits("f"), True)

    def test_forgotten_and_noted_again(self):
        desk = full("claim f finite l")
        desk.attach("f", HEXAGON)
        desk.do("forget f")
        self.fails(UnknownLabel, desk.fits, "f", value="f")
        self.fails(UnknownLabel, desk.attach, "f", HEXAGON, value="f")
        desk.do("claim f finite l")
        self.assertIs(desk.fits("f"), True)
        # With other words the paper is kept, and not for these.
        for words in ("finite t", "bowl g", "endless l", "finite e", "member l a"):
            desk.do_all("forget f", f"claim f {words}")
            self.assertIs(desk.fits("f"), False)
        desk.do_all("forget f", "claim f finite l")
        self.assertIs(desk.fits("f"), True)
        desk.do_all("undo", "undo", "undo", "undo")
        self.assertEqual([desk.do("claimed f"), desk.fits("f")], ["finite e", False])
        # Another one in its place, for other words.
        desk.attach("f", ([2], 3))
        self.assertIs(desk.fits("f"), True)
        desk.do_all("forget f", "claim f finite l")
        self.assertIs(desk.fits("f"), False)
        self.assertEqual(desk.do("state f"), "true")

    def test_undone_labels_keep_papers(self):
        desk = full("claim f finite l")
        desk.attach("f", HEXAGON)
        desk.do("undo")
        self.fails(UnknownLabel, desk.fits, "f", value="f")
        desk.do("redo")
        self.assertIs(desk.fits("f"), True)

    def test_wrong_papers(self):
        desk = full(*CLAIMS)
        desk.attach("f", HEXAGON)
        ahead = seen(desk)
        for label in desk.labels:
            values = WRONG + [-1, 0, [], (), [None], HEXAGON.rows, LOT, idle(1), Form([[1]]), ([1], 3, 3), ([], 3), [(1, 0), (0, 1), (0, 0)]]
            claim = desk.claim_of(label)
            for value in values:
                if not is_paper_of(claim, value) and not is_paper_of(contrary(claim), value):
                    self.fails(InvalidPaper, desk.attach, label, value, value=value)
        self.assertEqual(seen(desk), ahead)
        self.assertIs(desk.fits("f"), True)
        self.fails(UnknownLabel, desk.attach, "q", HEXAGON, value="q")
        self.fails(UnknownLabel, desk.attach, "l", None, value="l")

    def test_too_many_rows(self):
        desk = Desk()
        desk.do_all("form g 1,0,0;0,2,0;0,0,2", "form h 1,0,0;0,1,0;0,0,4", "claim u unlike g h", "claim d led h g", "claim s led g g")
        for label in "uds":
            for value in (399, 400, 0, True):
                self.fails(InvalidPaper, desk.attach, label, value, value=value)
        for label in "ud":
            desk.attach(label, paper_of(("unlike", desk["g"], desk["h"])))
            self.assertIs(desk.fits(label), True)
        desk.attach("s", idle(3))
        self.assertIs(desk.fits("s"), True)
        # A paper of forms with fewer rows, which are led to others then.
        desk = Desk()
        desk.do_all("form g 7,0,0;0,7,0;0,0,7", "form h 8,0,0;0,7,0;0,0,7", "claim u unlike g h")
        desk.attach("u", 399)
        desk.do_all("drop h", "form h 1,0,0;0,1,0;0,0,1")
        self.assertEqual([desk.do("state u"), desk.fits("u")], ["true", False])
        self.fails(InvalidPaper, desk.attach, "u", 399, value=399)
        desk.do_all("undo", "undo")
        self.assertIs(desk.fits("u"), True)

    def test_papers_are_copied(self):
        desk = full("claim e endless e", "claim o outside l s")
        paper, members = paper_of(desk.claim_of("e")), LOT.members()
        desk.attach("e", paper)
        desk.attach("o", members)
        paper[0].append(1)
        paper.clear()
        members.reverse()
        members.pop()
        self.assertEqual([desk.fits("e"), desk.fits("o")], [True, True])
        word = [2]
        desk.attach("e", (word, 3))
        word.clear()
        self.assertIs(desk.fits("e"), True)
        self.fails(InvalidPaper, desk.attach, "e", (word, 3), value=([], 3))

    def test_papers_are_no_deeds(self):
        desk = full("claim f finite l")
        desk.do_all("drop k", "undo")
        desk.attach("f", HEXAGON)
        self.assertEqual([len(desk), desk.do("redo"), desk.do("undo")], [11, "drop k", "drop k"])
        desk.attach("f", HEXAGON.times(3))
        self.assertEqual([desk.do("undo"), desk.do("redo"), desk.fits("f")], ["claim f finite l", "claim f finite l", True])
        self.assertEqual(Desk.again(desk.lines()).fits("f"), False)


class Walks(Case):
    """Long walks of deeds, some of which fail, taken back and done again."""

    TABLES = ("0,-1;1,1", "0,1;1,0", "1,1;0,1", "-1", "1,0,0;0,0,1;0,1,0", "0,0,1;1,0,0;0,1,0", "1,0;0,-1")
    FORMS = ("2,1;1,2", "1,2;2,1", "1,0;0,1", "5", "1,0,0;0,1,0;0,0,1", "0", "3,1;1,4")
    CLAIM_WORDS = (("finite", Lot), ("endless", Lot), ("bowl", Form), ("pit", Form), ("keeps", Table, Form), ("breaks", Table, Form), ("led", Form, Form),
                   ("unlike", Form, Form), ("member", Lot, Table), ("outside", Lot, Table), ("home", Table), ("never", Table))

    def command(self, source, desk):
        """A command, mostly of names that are right."""
        def name(kind):
            fitting = [one for one in desk.names if isinstance(desk[one], kind)]
            return source.choice(fitting) if fitting and source.random() < 0.9 else source.choice("abcdefghijk")

        new = source.choice([one for one in "abcdefghijk" if one not in desk] + ["a"])
        word = source.choice("table table form form lot lot copy times undone power plus bowl turn turn lead more less drop claim claim claim "
                             "claim forget undo redo undo".split())
        behind = {"table": lambda: [new, source.choice(self.TABLES)], "form": lambda: [new, source.choice(self.FORMS)],
                  "lot": lambda: [new, ",".join(name(Table) for _ in range(source.randint(1, 3)))], "copy": lambda: [new, name(object)],
                  "times": lambda: [new, name(Table), name(Table)], "undone": lambda: [new, name(Table)],
                  "power": lambda: [new, name(Table), str(source.randint(-3, 3))], "plus": lambda: [new, name(Form), name(Form)],
                  "bowl": lambda: [new, name(Lot)], "turn": lambda: [name((Table, Lot)), name(Table)], "lead": lambda: [name(Form), name(Table)],
                  "more": lambda: [name(Lot), name(Table)], "less": lambda: [name(Lot), str(source.randint(0, 1))], "drop": lambda: [name(object)],
                  "forget": lambda: [source.choice(desk.labels + ["q"])], "undo": list, "redo": list,
                  "claim": lambda: self.claim(source, name)}
        return " ".join([word] + behind[word]())

    def claim(self, source, name):
        word, *kinds = source.choice(self.CLAIM_WORDS)
        return [source.choice("abcdefghijklmn"), word] + [name(kind) for kind in kinds]

    def states(self, desk):
        """The states, from the claims and the things anew."""
        told = {}
        for label in desk.labels:
            word, *names = desk.do(f"claimed {label}").split(" ")
            claim = (word, *[desk[name] if name in desk else None for name in names])
            told[label] = ("true" if is_true(claim) else "false") if is_claim(claim) else "gone"
            self.assertEqual(desk.claim_of(label), claim if is_claim(claim) else None)
        return told

    def told(self, states):
        return ", ".join(f"{label} {state}" for label, state in sorted(states.items())) or "-"

    def test_walks(self):
        for seed in range(6):
            source, desk, done = random.Random(f"walk {seed}"), Desk(), 0
            for _ in range(220):
                command, ahead, lines = self.command(source, desk), self.states(desk), desk.lines()
                kept = {name: desk[name] for name in desk.names}
                try:
                    told = desk.do(command)
                except (ValueError, LookupError, RuntimeError, ArithmeticError):
                    self.assertEqual([self.states(desk), desk.lines(), {name: desk[name] for name in desk.names}], [ahead, lines, kept])
                    continue
                done += 1
                states = self.states(desk)
                self.assertEqual(desk.do("states"), self.told(states))
                if command == "undo":
                    self.assertEqual([told, desk.lines()], [lines[-1], lines[:-1]])
                elif command == "redo":
                    self.assertEqual(desk.lines(), lines + [told])
                else:
                    self.assertEqual(told, self.told({label: state for label, state in states.items() if ahead.get(label) != state}))
                    self.assertEqual(desk.lines(), lines + [command])
                self.assertEqual(len(desk), len(desk.lines()))
            self.assertTrue(done > 50)
            again = Desk.again(desk.lines())
            self.assertEqual([again.do("states"), again.names, [again[name] for name in again.names]],
                             [desk.do("states"), desk.names, [desk[name] for name in desk.names]])


class OneBehindTheOther(Case):
    def test_unlike_sizes(self):
        desk = full("claim k keeps a g")
        self.fails(UnlikeSizes, desk.do, "turn a w")
        desk.attach("k", [STEP.lead((1, 0)), STEP.lead((0, 1))])
        self.assertIs(desk.fits("k"), True)
        self.assertEqual([desk["a"] == STEP, desk["s"] == SLANT, desk["k"] == sum_form(3), desk["l"] == Lot([STEP, Table([[0, 1], [1, 0]])])], [True] * 4)
