from common import WRONG, Case, some_tables
from keptbowls.claims import words
from keptbowls.commands import is_command, is_deed, is_name
from keptbowls.desk import Desk
from keptbowls.errors import InvalidCommand
from keptbowls.tables import Table

DEEDS = """table form lot copy times undone power plus bowl turn lead more less drop claim forget""".split()
# Right commands, one or more for each word of the table, by the words.
RIGHT = """table a 0,-1;1,1 | table a 1 | table a1b2c3d4 1,0,0;0,1,0;0,0,-1 | form f 2,1;1,2 | form f -5 | form f 1,2;3,4 | table t 2,0;0,2
lot l a | lot l a,m | lot l a,a,a,a | copy b a | copy a a | times c a b | times c a a | undone b a | power b a 0 | power b a 99 | power b a -99
plus h f g | bowl g l | turn l s | lead g s | more l s | less l 0 | less l 999999999999999999999999999999 | drop a
claim c finite l | claim c endless l | claim c bowl g | claim c pit g | claim c keeps a g | claim c breaks a g | claim c led g h | claim c unlike g h
claim c member l a | claim c outside l a | claim c home a | claim c never a | claim finite finite finite | forget c | undo | redo | state c | states
claimed c | names | shown a | order a | trace a | rests a 3 | rests a 0 | point a 1,2 | point a -7 | point a 0,0,0 | worth f 1,-1 | corners f | short f 6
steps f | count l | kept l | product l 1.-2.1 | product l - | product l 99 | orders l | middle l | classes l | kind l | rounds l 3 | degrees l 6
holds l a | same l k"""
# Parts of which just the last one is wrong, behind what stands ahead of them.
WRONG_ROWS = ["0,-1;1", "1,2,3;4,5,6", "1;2", "1,2", "", "-", "0,-1;1,1;", ";1", "1,0;0,01", "-0", "00", "+1", "1.0", "1,0:0,1", "a", "1,0,0,0;0,1,0,0;0,0,1,0;0,0,0,1",
              "1" * 31, "-" + "1" * 31, "1,0;0," + "9" * 31, "1 0", "(1)", "1,", ",1", "1,,1", "--1", "1-"]
WRONG_NAMES = ["", "A", "aB", "1", "1a", "a_b", "a-b", "abcdefghi", "a,b", "a.b", "-", "a;", "a\n", "~a"]
WRONG_NUMBERS = ["", "-", "01", "-0", "+1", "1.0", "a", "1,2", "--1", "1-", "1" * 31, "-" + "2" * 31]


def right_commands():
    return [one.strip() for line in RIGHT.split("\n") for one in line.split("|")]


class Names(Case):
    def test_names(self):
        for name in ("a", "z", "a1", "abcdefgh", "a1234567", "zz9", "x0", "table", "undo"):
            self.assertIs(is_name(name), True)
        for value in WRONG_NAMES + [None, True, 5, ["a"], ("a",), {"a": 1}, b"a", " a", "a ", "a b", "A1", "aZ", "9", "0a"]:
            self.assertIs(is_name(value), False)
        for value in WRONG:
            self.assertIs(is_name(value), value == "ab")
        self.assertIs(is_name(value="abcdefgh"), True)


class Commands(Case):
    def test_right(self):
        seen = set()
        for command in right_commands():
            with self.subTest(command=command):
                self.assertIs(is_command(command), True)
                self.assertIs(is_deed(command), command.split(" ")[0] in DEEDS)
                seen.add(command.split(" ")[0])
        self.assertEqual(len(seen), 16 + 2 + 24)
        self.assertEqual([is_command(value="count l"), is_deed(value="lot l a")], [True, True])

    def test_wrong_values(self):
        for value in WRONG + [0, 1, "", " ", "-", ["undo"], ("undo",), "Undo", "undo ", " undo", "undo\n", "\nundo", "undo undo", "nothing", "tables a 1",
                              "add a b", "help", "quit", "is_finite l", "claim", "claim c", "claim c finite", "claim c l", "claim finite l"]:
            self.assertIs(is_command(value), False)
            self.assertIs(is_deed(value), False)
            self.fails(InvalidCommand, Desk().do, value, value=value)

    def test_one_word_wrong(self):
        for command in right_commands():
            texts = command.split(" ")
            wrong = [command + " ", " " + command, command + " a", command + " 1", command + "\n", command.upper(), command.replace(" ", "  ", 1) + "  ",
                     "x" + command, texts[0] + "x" + command[len(texts[0]):]]
            if len(texts) > 1:
                wrong += [" ".join(texts[:-1]), "  ".join(texts), texts[0], command.replace(" ", "\t", 1)]
            # A name in the place of another word may be right; a sign that no part has is always wrong.
            wrong += [" ".join(texts[:at] + [texts[at] + "!"] + texts[at + 1:]) for at in range(len(texts))]
            wrong += [" ".join(texts[:at] + texts[at + 1:]) for at in range(1, len(texts))]
            wrong += [" ".join(texts[:at] + [""] + texts[at + 1:]) for at in range(1, len(texts))]
            for value in wrong:
                with self.subTest(value=value):
                    self.assertIs(is_command(value), False)
                    self.assertIs(is_deed(value), False)

    def test_names_of_each_part(self):
        for command in right_commands():
            texts = command.split(" ")
            for at in range(1, len(texts)):
                # Names and words stand here; numbers and rows are changed below.
                if texts[at][0].isalpha() and not (texts[0] == "claim" and at == 2):
                    for name in WRONG_NAMES:
                        if not (name == "a,b" and texts[0] == "lot" and at == 2):
                            self.assertIs(is_command(" ".join(texts[:at] + [name] + texts[at + 1:])), False)
                    self.assertIs(is_command(" ".join(texts[:at] + ["abcdefgh"] + texts[at + 1:])), True)

    def test_rows(self):
        for word in ("table", "form"):
            for rows in WRONG_ROWS:
                self.assertIs(is_command(f"{word} a {rows}"), False)
            for rows in ("0", "-1", "5", "0,0;0,0", "1,2;3,4", "1,2,3;4,5,6;7,8,-9", "9" * 30, "-" + "9" * 30, "1,0;0,-" + "9" * 30, "1,0;" + "9" * 30 + ",1"):
                self.assertIs(is_command(f"{word} a {rows}"), True)
        for word in ("point", "worth"):
            for row in ("", "-", "1;2", "1,2,3,4", "01", "-0", "1,", ",1", "a", "1.2", "1" * 31, "1,-" + "1" * 31, "1 2"):
                self.assertIs(is_command(f"{word} a {row}"), False)
            for row in ("0", "-1", "1,2", "0,0,0", "1" * 30, "-" + "1" * 30 + ",1"):
                self.assertIs(is_command(f"{word} a {row}"), True)

    def test_numbers(self):
        for number in WRONG_NUMBERS + ["100", "-100", "9" * 30]:
            self.assertIs(is_command(f"power b a {number}"), False)
        for number in range(-99, 100):
            self.assertIs(is_command(f"power b a {number}"), True)
        for command in ("less l", "rests a", "short f", "rounds l", "degrees l"):
            for number in WRONG_NUMBERS + ["-1", "-99"]:
                self.assertIs(is_command(f"{command} {number}"), False)
            for number in ("0", "1", "99", "100", "9" * 30, "1" + "0" * 29):
                self.assertIs(is_command(f"{command} {number}"), True)

    def test_words_and_names(self):
        for word in ("1", "-1", "1.2", "-4.4.-4", "-", "5", "-99", ".".join(["1"] * 60), ".".join(["9" * 30, "-" + "9" * 30])):
            self.assertIs(is_command(f"product l {word}"), True)
        for word in ("", "0", "1.0", "1.-0", "01", "1.", ".1", "1..1", "--1", "1,2", "a", "-.1", ".".join(["1"] * 61), "9" * 31, "1;2"):
            self.assertIs(is_command(f"product l {word}"), False)
        for names in ("a", "a,b", "a,b,c,d", "a,a"):
            self.assertIs(is_command(f"lot l {names}"), True)
        for names in ("", ",", "a,", ",a", "a,,b", "a,b,c,d,e", "a;b", "a b", "a,B", "a,1"):
            self.assertIs(is_command(f"lot l {names}"), False)

    def test_claims(self):
        behind = {"finite": 1, "bowl": 1, "keeps": 2, "led": 2, "member": 2, "home": 1}
        for one, other in words():
            for word in (one, other):
                for many in range(4):
                    command = " ".join(["claim", "c", word] + ["a", "b", "d"][:many])
                    self.assertIs(is_command(command), many == behind[one])
                    self.assertIs(is_deed(command), many == behind[one])
        for word in ("lead", "order", "Finite", "c", "claim", "is", "1", ""):
            self.assertIs(is_command(f"claim c {word} a"), False)
            self.assertIs(is_command(f"claim c {word} a b"), False)

    def test_written_rows_are_commands(self):
        for size in (1, 2, 3):
            for table in some_tables(size, 10, greatest=99):
                rows = ";".join(",".join(str(number) for number in row) for row in table.rows)
                desk = Desk()
                desk.do(f"table a {rows}")
                self.assertEqual([desk["a"], desk.do("shown a")], [Table(table.rows), f"table {rows}"])
