from common import WRONG, Case
from keptbowls.classes import classes, middle, orders_of
from keptbowls.degrees import degree_counts
from keptbowls.desk import Desk, Trial, tried
from keptbowls.errors import CommandFailed, Endless, InvalidBowl, InvalidClaim, InvalidCommand, InvalidLines, InvalidMakers
from keptbowls.errors import InvalidMany, InvalidModulus, InvalidPosition, InvalidRow, InvalidRows, InvalidWord, LabelTaken
from keptbowls.errors import NameTaken, NothingToRedo, NothingToUndo, NotPlane, NotUndone, TooMany, UnknownLabel, UnknownName
from keptbowls.errors import UnlikeSizes, WrongThing
from keptbowls.forms import Form, sum_form
from keptbowls.kept import kept_rank
from keptbowls.lots import Lot
from keptbowls.rounds import rest_rounds
from keptbowls.tables import Table, idle, turned
from keptbowls.verdicts import endless_paper

STEP, FLIP, SLANT, WHEEL = Table([[0, -1], [1, 1]]), Table([[0, 1], [1, 0]]), Table([[1, 1], [0, 1]]), Table([[0, 0, 1], [1, 0, 0], [0, 1, 0]])
HEXAGON, HOLE, SPACE = Form([[2, 1], [1, 2]]), Form([[1, 2], [2, 1]]), sum_form(3)
LOT, WIDE, TURNS = Lot([STEP, FLIP]), Lot([STEP, SLANT]), Lot([WHEEL])
DEEDS = ["table a 0,-1;1,1", "table m 0,1;1,0", "table s 1,1;0,1", "table w 0,0,1;1,0,0;0,1,0", "form g 2,1;1,2", "form p 1,2;2,1",
         "form k 1,0,0;0,1,0;0,0,1", "lot l a,m", "lot e a,s", "lot t w"]
CLAIMS = ["claim f finite l", "claim e endless e", "claim b bowl g", "claim p pit p", "claim k keeps a g", "claim x breaks s g", "claim d led g g",
          "claim i member l m", "claim o outside l s", "claim h home a", "claim n never s", "claim u unlike k k"]


def full(*commands):
    """A desk with ten things."""
    desk = Desk()
    desk.do_all(*DEEDS, *commands)
    return desk


def seen(desk):
    """All that can be asked of a desk."""
    told = [desk.names, desk.labels, len(desk), desk.lines(), [desk[name] for name in desk.names], desk.do("states"), desk.do("names")]
    told.append([(desk.claim_of(label), desk.fits(label), desk.do(f"claimed {label}")) for label in desk.labels])
    other, back = desk.copy(), []
    try:
        while True:
            back.append(other.do("redo"))
    except NothingToRedo:
        return told + [back]


class DeskCase(Case):
    def does_not(self, error, desk, command, **attributes):
        """The command fails, by do, by a call, within do_all and attempt, and nothing changes."""
        ahead = seen(desk)
        self.fails(error, desk.do, command, **attributes)
        self.fails(error, desk, command, **attributes)
        for call in (desk.do_all, desk.attempt):
            with self.assertRaises(CommandFailed) as caught:
                call("names", "states", command, "names")
            self.assertEqual([caught.exception.position, type(caught.exception.__cause__)], [2, error])
        self.assertEqual(seen(desk), ahead)


class Deeds(DeskCase):
    def test_example(self):
        desk = Desk()
        told = desk.do_all("table a 0,-1;1,1", "table m 0,1;1,0", "lot l a,m", "claim f finite l", "count l", "bowl g l", "shown g", "orders l")
        self.assertEqual(told, ["-", "-", "-", "f true", "12", "-", "form 2,1;1,2", "1:1 2:7 3:2 6:2"])
        told = desk.do_all("table s 1,1;0,1", "more l s", "count l", "undo", "order s", "point s 3,-1", "holds l s")
        self.assertEqual(told, ["-", "f false", "endless", "more l s", "none", "2,-1", "no"])

    def test_things(self):
        desk = full()
        self.assertEqual(desk.names, sorted("amswgpklet"))
        self.assertEqual([desk[name] for name in "amsw"], [STEP, FLIP, SLANT, WHEEL])
        self.assertEqual([desk[name] for name in "gpk"], [HEXAGON, HOLE, SPACE])
        self.assertEqual([desk[name] for name in "let"], [LOT, WIDE, TURNS])
        self.assertEqual([len(desk), desk.lines(), desk.labels], [10, DEEDS, []])

    def test_each_deed(self):
        for command, name, thing in (("copy c a", "c", STEP), ("copy c g", "c", HEXAGON), ("copy c l", "c", LOT), ("times c a s", "c", STEP * SLANT),
                                     ("times c s a", "c", SLANT * STEP), ("undone c a", "c", STEP.undone()), ("power c s 99", "c", SLANT.power(99)),
                                     ("power c s -99", "c", SLANT.power(-99)), ("power c a 0", "c", idle(2)), ("plus c g p", "c", HEXAGON + HOLE),
                                     ("bowl c l", "c", HEXAGON), ("bowl c t", "c", SPACE), ("turn a s", "a", turned(STEP, SLANT)), ("turn s s", "s", SLANT),
                                     ("turn l s", "l", Lot([turned(STEP, SLANT), turned(FLIP, SLANT)])), ("turn e s", "e", Lot([turned(STEP, SLANT), SLANT])),
                                     ("lead g s", "g", HEXAGON.led(SLANT)), ("lead p a", "p", HOLE.led(STEP)), ("more l s", "l", Lot([STEP, FLIP, SLANT])),
                                     ("less l 0", "l", Lot([FLIP])), ("less l 1", "l", Lot([STEP])), ("lot c s,a,s,m", "c", Lot([SLANT, STEP, SLANT, FLIP])),
                                     ("form c 0,5;5,0", "c", Form([[0, 5], [5, 0]])), ("table c -1", "c", Table([[-1]]))):
            desk = full("drop k")
            self.assertEqual(desk.do(command), "-")
            self.assertEqual(desk[name], thing)
            self.assertIs(type(desk[name]), type(thing))
            self.assertEqual([len(desk), desk.lines()[-1], name in desk.names], [12, command, True])
            behind = seen(desk)
            self.assertEqual([desk.do("undo"), desk.do("redo")], [command, command])
            self.assertEqual(seen(desk), behind)

    def test_drop(self):
        for name in "agl":
            desk = full()
            self.assertEqual([desk.do(f"drop {name}"), name in desk, len(desk.names)], ["-", False, 9])
            self.assertEqual(desk.do(f"table {name} 1"), "-")
            self.assertEqual(desk[name], idle(1))

    def test_lots_stay_as_they_were_made(self):
        desk = full()
        desk.do_all("turn a s", "drop m")
        self.assertEqual(desk["l"], LOT)
        desk.do_all("copy o l", "less l 0")
        self.assertEqual([desk["o"], desk["l"]], [LOT, Lot([FLIP])])

    def test_kept_and_asked(self):
        desk = full("claim a finite l")
        for name in desk.names:
            self.assertIs(name in desk, True)
        for value in WRONG + ["", "q", "A", 0, 1, ["a"], ("a",), {"a": 1}, STEP, b"a"]:
            self.assertIs(value in desk, False)
            self.fails(UnknownName, lambda: desk[value], value=value)
            self.fails(UnknownLabel, desk.claim_of, value, value=value)
            self.fails(UnknownLabel, desk.fits, value, value=value)
            self.fails(UnknownLabel, desk.attach, value, None, value=value)
        with self.assertRaises(TypeError):
            list(desk)
        told = desk.names
        told.append("spoilt")
        desk.labels.append("spoilt")
        desk.lines().append("spoilt")
        self.assertEqual([len(desk.names), desk.labels, len(desk.lines())], [10, ["a"], 11])
        self.assertEqual([Desk().names, Desk().labels, len(Desk()), Desk().lines()], [[], [], 0, []])


class Questions(DeskCase):
    def test_answers(self):
        desk = full("drop k", "table z -1")
        wanted = {
            "names": "a e g l m p s t w z", "states": "-", "shown a": "table 0,-1;1,1", "shown g": "form 2,1;1,2", "shown l": "lot 0,-1;1,1 0,1;1,0",
            "shown t": "lot 0,0,1;1,0,0;0,1,0", "shown z": "table -1", "order a": "6", "order s": "none", "order w": "3", "order z": "2", "trace a": "1",
            "trace w": "0", "trace z": "-1", "rests s 2": "1,1;0,1", "rests a 3": "0,2;1,1", "rests z 1000": "999", "point a 2,3": "-3,5",
            "point w 1,2,3": "3,1,2", "point z -5": "5", "worth g 1,-1": "2", "worth p 1,-1": "-2", "corners g": "2 3", "corners p": "1 -3",
            "short g 2": "7", "short g 0": "1", "short g 6": "13", "steps g": "2 2", "count l": "12", "count e": "endless", "count t": "3", "kept l": "1",
            "kept e": "0", "kept t": "2", "product l 1.2": "-1,0;1,1", "product l -": "1,0;0,1", "product e 2.2.-1": "-1,1;-1,0", "orders l": "1:1 2:7 3:2 6:2",
            "orders t": "1:1 3:2", "middle l": "2", "middle t": "3", "classes l": "6", "classes t": "3", "kind l": "6mm", "rounds l 3": "3", "rounds t 2": "4",
            "degrees l 6": "1 0 1 0 1 0 2", "degrees t 0": "1", "holds l m": "yes", "holds l s": "no", "holds l w": "no", "holds t w": "yes", "same l l": "yes",
            "holds t z": "no"}
        ahead = seen(desk)
        for command, told in wanted.items():
            self.assertEqual([command, desk.do(command=command)], [command, told])
            self.assertEqual(desk(command), told)
        self.assertEqual(seen(desk), ahead)
        self.assertEqual([Desk().do("names"), Desk().do("states")], ["-", "-"])

    def test_answers_of_what_tells_them(self):
        desk = full()
        for name, lot in (("l", LOT), ("t", TURNS)):
            self.assertEqual(desk.do(f"kept {name}"), str(kept_rank(lot.makers())))
            self.assertEqual([desk.do(f"middle {name}"), desk.do(f"classes {name}")], [str(len(middle(lot))), str(len(classes(lot)))])
            self.assertEqual(desk.do(f"orders {name}"), " ".join(f"{often}:{many}" for often, many in orders_of(lot).items()))
            for modulus in (2, 5):
                self.assertEqual(desk.do(f"rounds {name} {modulus}"), str(rest_rounds(lot, modulus)))
            for many in (0, 8):
                self.assertEqual(desk.do(f"degrees {name} {many}"), " ".join(str(one) for one in degree_counts(lot, many)))
            self.assertEqual(desk.do(f"same {name} {name}"), "yes")
        desk.do_all("drop g", "drop p", "times q m a", "lot b m,q")
        self.assertEqual([desk.do("same l b"), desk.do("same b l")], ["yes", "yes"])
        desk.do("less b 0")
        self.assertEqual([desk.do("same l b"), desk.do("count b")], ["no", "2"])

    def test_great_numbers(self):
        far = "9" * 30
        desk = Desk()
        desk.do_all(f"table a 1,{far};0,1", f"form g {far}", "lot l a")
        self.assertEqual(desk.do_all("trace a", f"point a 0,{far}", f"worth g -{far}", "count l", "product l 1.1"),
                         ["2", f"{int(far) ** 2},{far}", str(int(far) ** 3), "endless", f"1,{2 * int(far)};0,1"])
        self.does_not(InvalidCommand, desk, f"point a 0,1{far}", value=f"point a 0,1{far}")
        self.does_not(InvalidMany, desk, f"short g {far}", value=int(far))


class States(DeskCase):
    def test_claims_noted(self):
        desk, told = full(), {}
        for command in CLAIMS:
            _, label, *words = command.split(" ")
            told[label] = "false" if label == "u" else "true"
            self.assertEqual(desk.do(command), f"{label} {told[label]}")
            self.assertEqual([desk.do(f"state {label}"), desk.do(f"claimed {label}")], [told[label], " ".join(words)])
        self.assertEqual(desk.labels, sorted(told))
        self.assertEqual(desk.do("states"), ", ".join(f"{label} {told[label]}" for label in sorted(told)))
        self.assertEqual([desk.claim_of("f"), desk.claim_of("k"), desk.claim_of("o")], [("finite", LOT), ("keeps", STEP, HEXAGON), ("outside", LOT, SLANT)])
        self.assertEqual(desk.claim_of(label="n"), ("never", SLANT))

    def test_contraries(self):
        desk = full()
        for at, (words, state) in enumerate((("endless l", "false"), ("finite e", "false"), ("pit g", "false"), ("bowl p", "false"), ("breaks a g", "false"),
                                             ("keeps s g", "false"), ("unlike g g", "false"), ("outside l m", "false"), ("member l s", "false"),
                                             ("never a", "false"), ("home s", "false"), ("led k k", "true"))):
            self.assertEqual(desk.do(f"claim c{at} {words}"), f"c{at} {state}")

    def test_changes(self):
        desk = full(*CLAIMS)
        self.assertEqual(desk.do("turn s a"), "-")
        self.assertEqual(desk.do("more l s"), "f false, i gone, o gone")
        self.assertEqual([desk.claim_of("f"), desk.claim_of("i")], [("finite", Lot([STEP, FLIP, desk["s"]])), None])
        self.assertEqual(desk.do("less l 2"), "f true, i true, o true")
        self.assertEqual(desk.do("lead g s"), "k false")
        self.assertEqual(desk.do("drop a"), "h gone, k gone")
        self.assertEqual(desk.do("form a 1"), "-")
        self.assertEqual(desk.do("state h"), "gone")
        self.assertEqual(desk.do("drop a"), "-")
        self.assertEqual(desk.do("table a 1,0;0,1"), "h true, k true")
        self.assertEqual(desk.do("drop g"), "b gone, d gone, k gone, x gone")
        self.assertEqual(desk.do("form g 1,0,0;0,1,0;0,0,0"), "b false")
        self.assertEqual([desk.claim_of("b"), desk.claim_of("d")], [("bowl", Form([[1, 0, 0], [0, 1, 0], [0, 0, 0]])), None])
        self.assertEqual(desk.do("states"), "b false, d gone, e true, f true, h true, i true, k gone, n true, o true, p true, u false, x gone")
        self.assertEqual([desk.do("undo"), desk.do("undo")], ["form g 1,0,0;0,1,0;0,0,0", "drop g"])
        self.assertEqual(desk.do("states"), "b true, d true, e true, f true, h true, i true, k true, n true, o true, p true, u false, x true")

    def test_gone_and_back(self):
        desk = full("claim f finite l", "claim i member l a", "claim d led g g")
        self.assertEqual(desk.do("drop l"), "f gone, i gone")
        self.assertEqual([desk.claim_of("f"), desk.do("state f"), desk.do("claimed f"), desk.fits("f")], [None, "gone", "finite l", False])
        self.assertEqual(desk.do("copy l a"), "-")
        self.assertEqual([desk.do("drop l"), desk.do("copy l e")], ["-", "f false"])
        self.assertEqual(desk.do("less l 1"), "f true, i true")
        self.assertEqual([desk.do("drop g"), desk.do("form g 1,0;0,39601")], ["d gone", "-"])
        self.assertEqual([desk.do("drop g"), desk.do("form g 1,0;0,39600")], ["-", "d true"])
        self.assertEqual([desk.do("drop g"), desk.do("form g 1,2;2,1"), desk.do("state d")], ["d gone", "-", "gone"])

    def test_labels_like_names(self):
        desk = full("claim a home a", "claim l finite l")
        self.assertEqual([desk.labels, desk.do("drop a"), desk.do("state l")], [["a", "l"], "a gone", "true"])
        self.assertEqual(desk.do("forget l"), "-")
        self.assertEqual([desk.labels, "l" in desk], [["a"], True])

    def test_forget(self):
        desk = full("claim f finite l")
        self.assertEqual([desk.do("forget f"), desk.labels, desk.do("states")], ["-", [], "-"])
        self.assertEqual(desk.do("more l s"), "-")
        self.assertEqual(desk.do("claim f finite l"), "f false")
        self.assertEqual([desk.do("undo"), desk.do("undo"), desk.do("undo"), desk.do("states")], ["claim f finite l", "more l s", "forget f", "f true"])


class UndoRedo(DeskCase):
    def test_back_and_forth(self):
        commands = DEEDS + CLAIMS + ["more l s", "turn a s", "lead g m", "forget f", "drop l", "drop k", "copy l e", "less l 0", "undone z a", "drop z", "power z s -7",
                                     "forget u", "claim q endless l"]
        desk, told = Desk(), []
        for command in commands:
            told.append(seen(desk)[:-1])
            desk.do(command)
        self.assertEqual([len(desk), desk.lines()], [len(commands), commands])
        for at in reversed(range(len(commands))):
            self.assertEqual(desk.do("undo"), commands[at])
            self.assertEqual(seen(desk)[:-1], told[at])
            self.assertEqual([len(desk), desk.lines()], [at, commands[:at]])
        self.does_not(NothingToUndo, desk, "undo")
        for at, command in enumerate(commands):
            self.assertEqual(seen(desk)[:-1], told[at])
            self.assertEqual(desk.do("redo"), command)
        self.does_not(NothingToRedo, desk, "redo")
        self.assertEqual(desk.lines(), commands)

    def test_what_is_between(self):
        desk = full("undo", "undo")
        # Neither a question nor a failing deed takes away what can be done again.
        self.assertEqual(desk.do("order a"), "6")
        self.fails(UnknownName, desk.do, "drop q")
        self.fails(InvalidCommand, desk.do, "nothing")
        desk.do("redo")
        desk.do("undo")
        self.assertEqual([desk.do("redo"), desk.do("redo")], DEEDS[-2:])
        desk.do("undo")
        self.assertEqual(desk.do("drop a"), "-")
        self.fails(NothingToRedo, desk.do, "redo")
        self.assertEqual(desk.lines(), DEEDS[:-1] + ["drop a"])

    def test_forms_lots_and_labels(self):
        desk = full("claim f finite l")
        desk.do_all("less l 0", "undo")
        self.assertEqual(desk["l"], LOT)
        desk.do("redo")
        self.assertEqual(desk["l"], Lot([FLIP]))
        desk.do_all("undo", "undo")
        self.assertEqual(desk.labels, [])
        desk.do("redo")
        self.assertEqual(desk.do("states"), "f true")


class Errors(DeskCase):
    def test_commands(self):
        desk = full("claim f finite l")
        for value in WRONG + [0, 1, "table", "table q 0,1;1", ["undo"], "order a ", "power q a 100"]:
            self.does_not(InvalidCommand, desk, value, value=value)

    def test_names_and_labels(self):
        desk = full("claim f finite l")
        for command in ("table a 1", "form a 1", "lot a m", "copy a g", "times a a a", "undone a q", "power a q 1", "plus a q q", "bowl a q", "table a 5",
                        "lot a a", "copy a a", "bowl a g"):
            self.does_not(NameTaken, desk, command, name="a")
        for command in ("claim f finite l", "claim f finite q", "claim f bowl l", "claim f led q z"):
            self.does_not(LabelTaken, desk, command, label="f")
        for command in ("copy b q", "times b q z", "times b a q", "times b g q", "undone b q", "power b q 1", "plus b q g", "plus b a q", "bowl b q", "turn q a",
                        "turn a q", "turn g q", "lead q s", "lead g q", "lead a q", "more q s", "more l q", "more a q", "less q 0", "drop q", "lot b q", "lot b a,q,z",
                        "lot b g,q", "claim c finite q", "claim c keeps a q", "claim c keeps q z", "claim c led a q", "shown q", "order q", "trace q", "rests q 3",
                        "point q 1", "worth q 1", "corners q", "short q 1", "steps q", "count q", "kept q", "product q 1", "orders q", "middle q", "classes q",
                        "kind q", "rounds q 3", "degrees q 3", "holds q z", "holds l q", "holds a q", "same q l", "same l q", "same a q", "rests q 1", "less q 99"):
            self.does_not(UnknownName, desk, command, value="q")
        for command in ("forget q", "state q", "claimed q"):
            self.does_not(UnknownLabel, desk, command, value="q")
        self.does_not(UnknownName, desk, "copy q q", value="q")
        self.does_not(UnknownLabel, desk, "forget l", value="l")
        self.does_not(UnknownName, desk, "drop f", value="f")

    def test_things_of_another_kind(self):
        desk = full()
        for command, name in (("lot b g", "g"), ("lot b a,l,g", "l"), ("lot b a,w,g", "g"), ("times b g l", "g"), ("times b a l", "l"), ("undone b g", "g"),
                              ("power b l 1", "l"), ("plus b a l", "a"), ("plus b g a", "a"), ("bowl b g", "g"), ("bowl b a", "a"), ("turn g s", "g"), ("turn a g", "g"),
                              ("turn l l", "l"), ("turn g g", "g"), ("lead a s", "a"), ("lead g l", "l"), ("more a s", "a"), ("more l g", "g"), ("more g l", "g"),
                              ("less a 0", "a"), ("less g 99", "g"), ("claim c finite a", "a"), ("claim c endless g", "g"), ("claim c bowl l", "l"),
                              ("claim c pit a", "a"), ("claim c keeps g a", "g"), ("claim c keeps a a", "a"), ("claim c breaks l g", "l"), ("claim c led a g", "a"),
                              ("claim c unlike g l", "l"), ("claim c member a l", "a"), ("claim c outside l g", "g"), ("claim c home l", "l"), ("claim c never g", "g"),
                              ("order g", "g"), ("trace l", "l"), ("rests g 1", "g"), ("point l 1", "l"), ("worth a 1", "a"), ("corners l", "l"), ("short a 1", "a"),
                              ("steps l", "l"), ("count a", "a"), ("kept g", "g"), ("product a 9", "a"), ("orders g", "g"), ("middle a", "a"), ("classes g", "g"),
                              ("kind a", "a"), ("rounds g 1", "g"), ("degrees a 99", "a"), ("holds a l", "a"), ("holds l l", "l"), ("holds l g", "g"),
                              ("same a l", "a"), ("same l a", "a"), ("same g a", "g")):
            self.does_not(WrongThing, desk, command, name=name)

    def test_what_makes_it(self):
        desk = full("drop k")
        self.does_not(NotUndone, desk, "table b 1,0;0,2")
        self.does_not(NotUndone, desk, "table b 0")
        self.does_not(InvalidRows, desk, "form b 1,2;3,4", value=((1, 2), (3, 4)))
        self.does_not(InvalidRows, desk, "form b 1,2,0;2,1,0;0,1,0", value=((1, 2, 0), (2, 1, 0), (0, 1, 0)))
        self.does_not(InvalidMakers, desk, "lot b a,w", position=1)
        self.does_not(InvalidMakers, desk, "lot b w,w,a,w", position=2)
        for command in ("times b a w", "turn a w", "turn l w", "turn w a", "turn t s", "lead g w"):
            self.does_not(UnlikeSizes, desk, command)
        desk.do_all("form k 1,0,0;0,1,0;0,0,1", "drop p")
        for command in ("plus b g k", "lead k s", "same l t"):
            self.does_not(UnlikeSizes, desk, command)
        desk.do_all("drop k", "form p 1,2;2,1")
        for command in ("bowl b e", "orders e", "middle e", "classes e", "kind e", "rounds e 3", "degrees e 3", "holds e a", "same e l", "same l e"):
            self.does_not(Endless, desk, command)
        self.does_not(NotPlane, desk, "kind t")

    def test_makers_more_and_less(self):
        desk = full()
        self.does_not(InvalidMakers, desk, "more l w", position=2)
        self.does_not(InvalidMakers, desk, "more t s", position=1)
        desk.do_all("more l a", "more l m")
        self.assertEqual(len(desk["l"].makers()), 4)
        self.does_not(InvalidMakers, desk, "more l a", position=None)
        self.does_not(InvalidMakers, desk, "more l w", position=None)
        self.does_not(InvalidPosition, desk, "less l 4", value=4)
        self.assertEqual(desk.do_all("less l 3", "less l 0", "less l 1"), ["-"] * 3)
        self.assertEqual(desk["l"], Lot([FLIP]))
        self.does_not(InvalidMakers, desk, "less l 0", position=None)
        self.does_not(InvalidPosition, desk, "less l 1", value=1)
        self.does_not(InvalidPosition, desk, "less t 9999", value=9999)
        self.does_not(InvalidPosition, desk, "less t " + "9" * 30, value=10 ** 30 - 1)
        self.does_not(InvalidMakers, desk, "less t 0", position=None)

    def test_what_tells_it(self):
        desk = full()
        self.does_not(InvalidModulus, desk, "rests a 1", value=1)
        self.does_not(InvalidModulus, desk, "rests a 1001", value=1001)
        self.does_not(InvalidModulus, desk, "rounds l 10", value=10)
        self.does_not(InvalidModulus, desk, "rounds e 0", value=0)
        self.does_not(InvalidMany, desk, "degrees l 9", value=9)
        self.does_not(InvalidMany, desk, "short g 1000001", value=1000001)
        self.does_not(TooMany, desk, "short g 1000000", what="rows", limit=400)
        self.does_not(InvalidBowl, desk, "short p 1000001", value=HOLE)
        self.does_not(InvalidBowl, desk, "steps p", value=HOLE)
        self.does_not(InvalidRow, desk, "point a 1", value=(1,))
        self.does_not(InvalidRow, desk, "point w 1,2", value=(1, 2))
        self.does_not(InvalidRow, desk, "worth g 1,2,3", value=(1, 2, 3))
        self.does_not(InvalidWord, desk, "product l 1.3", value=[1, 3])
        self.does_not(InvalidWord, desk, "product t -2", value=[-2])

    def test_claims(self):
        desk = full()
        for command, claim in (("claim c keeps w g", ("keeps", WHEEL, HEXAGON)), ("claim c breaks a k", ("breaks", STEP, SPACE)), ("claim c led g k", ("led", HEXAGON, SPACE)),
                               ("claim c unlike p g", ("unlike", HOLE, HEXAGON)), ("claim c led g p", ("led", HEXAGON, HOLE)), ("claim c member l w", ("member", LOT, WHEEL)),
                               ("claim c outside e a", ("outside", WIDE, STEP)), ("claim c member e s", ("member", WIDE, SLANT))):
            self.does_not(InvalidClaim, desk, command, value=claim)
        desk.do_all("drop p", "form p 1,0;0,39601")
        far = Form([[1, 0], [0, 39601]])
        self.does_not(InvalidClaim, desk, "claim c led p g", value=("led", far, HEXAGON))
        self.does_not(InvalidClaim, desk, "claim c unlike p p", value=("unlike", far, far))
        self.assertEqual(desk.do("claim c unlike g p"), "c true")

    def test_ten_names(self):
        desk = full()
        for command in ("table b 1", "form b 0", "lot b a", "copy b a", "times b a a", "undone b a", "power b a 3", "plus b g g", "bowl b l"):
            self.does_not(TooMany, desk, command, what="names", limit=10)
        # What makes it is ahead.
        self.does_not(NotUndone, desk, "table b 0")
        self.does_not(Endless, desk, "bowl b e")
        self.assertEqual(desk.do_all("turn a s", "more l s", "drop k", "table b 1"), ["-"] * 4)
        self.does_not(TooMany, desk, "copy c b", what="names", limit=10)

    def test_twelve_labels(self):
        desk = full(*CLAIMS)
        self.assertEqual(len(desk.labels), 12)
        self.does_not(TooMany, desk, "claim z home a", what="labels", limit=12)
        self.does_not(InvalidClaim, desk, "claim z member e a", value=("member", WIDE, STEP))
        self.does_not(LabelTaken, desk, "claim f home a", label="f")
        self.assertEqual(desk.do_all("forget f", "claim z home a"), ["-", "z true"])
        self.does_not(TooMany, desk, "claim y home a", what="labels", limit=12)

    def test_three_hundred_deeds(self):
        desk = full("claim h home a")
        for _ in range(144):
            desk.do_all("turn a s", "turn a a")
        desk.do("drop k")
        self.assertEqual(len(desk), 300)
        for command in ("turn a s", "form k 1", "drop a", "forget h", "claim z home a", "less l 0", "copy z a"):
            self.does_not(TooMany, desk, command, what="deeds", limit=300)
        self.does_not(NameTaken, desk, "table a 1", name="a")
        self.does_not(InvalidMakers, desk, "less t 0", position=None)
        self.assertEqual([desk.do("undo"), len(desk), desk.do("redo"), len(desk)], ["drop k", 299, "drop k", 300])
        self.assertEqual([desk.do("order a"), desk.do("undo"), desk.do("drop g"), len(desk)], ["6", "drop k", "-", 300])
        self.does_not(TooMany, desk, "drop s", what="deeds", limit=300)
        self.does_not(NothingToRedo, desk, "redo")
        self.assertEqual(seen(Desk.again(desk.lines())), seen(desk))
        with self.assertRaises(CommandFailed) as caught:
            Desk.again(desk.lines() + ["drop s"])
        self.assertEqual([caught.exception.position, caught.exception.__cause__.limit], [300, 300])

    def test_limits_one_behind_the_other(self):
        desk = full(*CLAIMS)
        while len(desk) < 300:
            desk.do("turn a a")
        self.does_not(TooMany, desk, "copy b a", what="names", limit=10)
        self.does_not(TooMany, desk, "claim z home a", what="labels", limit=12)
        self.does_not(TooMany, desk, "turn a a", what="deeds", limit=300)


class Several(DeskCase):
    def test_do_all(self):
        desk = Desk()
        self.assertEqual(desk.do_all(), [])
        self.assertEqual(desk.do_all("table a 0,-1;1,1", "order a", "undo", "redo", "names"), ["-", "6", "table a 0,-1;1,1", "table a 0,-1;1,1", "a"])
        self.assertEqual([len(desk), desk.names], [1, ["a"]])

    def test_one_that_fails(self):
        desk = full("claim f finite l")
        desk.do_all("drop k", "undo")
        for commands, position, error in ((["drop a", "drop a"], 1, UnknownName), (["nothing"], 0, InvalidCommand), ([None, "names"], 0, InvalidCommand),
                                          (["undo", "undo", "more l s", "redo"], 3, NothingToRedo), (["more l s", "order a", "bowl b l"], 2, Endless),
                                          (["forget f", "state f"], 1, UnknownLabel), (["redo", "table z 1", "names", "table y 1", "drop z"], 3, TooMany),
                                          (["undo"] * 11 + ["names", "undo"], 12, NothingToUndo)):
            for call in (desk.do_all, desk.attempt):
                ahead = seen(desk)
                with self.assertRaises(CommandFailed) as caught:
                    call(*commands)
                self.assertEqual(caught.exception.position, position)
                self.assertIs(type(caught.exception.__cause__), error)
                self.assertEqual(seen(desk), ahead)

    def test_attempt(self):
        desk = full("claim f finite l")
        desk.do_all("drop k", "undo")
        ahead = seen(desk)
        self.assertEqual(desk.attempt("more l s", "count l", "state f", "undo", "undo", "names"),
                         ["f false", "endless", "false", "more l s", "claim f finite l", " ".join(sorted("amswgpklet"))])
        self.assertEqual([seen(desk), desk.attempt()], [ahead, []])
        self.assertEqual(desk.do("redo"), "drop k")


class Trials(DeskCase):
    def test_block(self):
        desk = full("claim f finite l")
        desk.do_all("drop k", "undo")
        desk.attach("f", HEXAGON)
        ahead, trial = seen(desk), Trial(desk)
        for _ in range(2):
            with trial as held:
                self.assertIs(held, desk)
                held.do_all("more l s", "claim z endless l", "drop a")
                held.attach("z", endless_paper(held["l"]))
                held.attach("f", endless_paper(held["l"]))
                self.assertNotEqual(seen(desk), ahead)
            self.assertEqual(seen(desk), ahead)
        self.assertEqual([desk.fits("f"), desk.do("redo")], [True, "drop k"])

    def test_block_that_fails(self):
        desk = full("claim f finite l")
        ahead = seen(desk)
        for error, action in ((UnknownName, lambda held: held.do("drop q")), (ZeroDivisionError, lambda held: 1 // 0), (CommandFailed, lambda held: held.do_all("drop a", "drop a"))):
            with self.assertRaises(error):
                with Trial(desk=desk) as held:
                    held.do_all("drop a", "forget f", "undo")
                    action(held)
            self.assertEqual(seen(desk), ahead)
            with self.assertRaises(error):
                tried(desk, action)
            self.assertEqual(seen(desk), ahead)

    def test_blocks_in_blocks(self):
        desk = full()
        ahead = seen(desk)
        with Trial(desk):
            desk.do("drop a")
            between = seen(desk)
            with Trial(desk):
                desk.do_all("drop m", "undo", "undo")
            self.assertEqual(seen(desk), between)
        self.assertEqual(seen(desk), ahead)

    def test_tried(self):
        desk = full()
        ahead = seen(desk)
        self.assertEqual(tried(desk, lambda held: held.do_all("drop a", "names")), ["-", "e g k l m p s t w"])
        self.assertEqual(tried(desk=desk, action=lambda held: (held is desk, held.do("drop g"), len(held))), (True, "-", 11))
        self.assertIsNone(tried(desk, lambda held: None))
        self.assertEqual(seen(desk), ahead)


class CopiesAndLines(DeskCase):
    def test_copy_goes_on_by_itself(self):
        desk = full("claim f finite l")
        desk.attach("f", HEXAGON)
        desk.do_all("drop k", "undo")
        other = desk.copy()
        self.assertIs(type(other), Desk)
        self.assertEqual(seen(other), seen(desk))
        ahead = seen(desk)
        other.do_all("redo", "more l s", "claim z home a")
        other.attach("f", endless_paper(other["l"]))
        self.assertEqual(seen(desk), ahead)
        self.assertEqual([other.fits("f"), desk.fits("f"), other.names == desk.names], [True, True, False])
        ahead = seen(other)
        desk.do_all("undo", "undo", "drop a")
        self.assertEqual(seen(other), ahead)
        self.assertEqual([other.do("undo"), desk.do("undo")], ["claim z home a", "drop a"])

    def test_again(self):
        commands = DEEDS + CLAIMS + ["more l s", "forget f", "drop k"]
        desk = Desk.again(commands)
        self.assertIs(type(desk), Desk)
        self.assertEqual([desk.lines(), len(desk)], [commands, len(commands)])
        other = full(*CLAIMS, "more l s", "forget f", "drop k")
        self.assertEqual(seen(desk), seen(other))
        self.assertEqual(seen(Desk.again(tuple(commands))), seen(other))
        self.assertEqual(seen(Desk.again(lines=other.lines())), seen(other))
        self.assertEqual(seen(Desk.again([])), seen(Desk()))
        # What was taken back is not among the lines.
        other.do_all("undo", "undo")
        self.assertEqual(Desk.again(other.lines()).lines(), commands[:-2])
        self.fails(NothingToRedo, Desk.again(other.lines()).do, "redo")

    def test_again_wrong(self):
        for value in WRONG + [0, 1, "table a 1", Desk()]:
            self.fails(InvalidLines, Desk.again, value, position=None)
        for wrong in WRONG + [0, "undo", "redo", "names", "order a", "table a 1 ", ["table a 1"], "state f", ""]:
            self.fails(InvalidLines, Desk.again, [wrong], position=0)
            self.fails(InvalidLines, Desk.again, ["table a 1", "drop q", wrong, wrong], position=2)
        for commands, position, error in ((["table a 1", "drop q"], 1, UnknownName), (["table a 0"], 0, NotUndone), (["table a 1", "table a 1", "drop q"], 1, NameTaken)):
            with self.assertRaises(CommandFailed) as caught:
                Desk.again(commands)
            self.assertEqual([caught.exception.position, type(caught.exception.__cause__)], [position, error])

    def test_nothing_passed_changes(self):
        commands = list(DEEDS)
        Desk.again(commands).do("drop a")
        self.assertEqual(commands, DEEDS)
