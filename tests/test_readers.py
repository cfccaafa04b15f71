import random
import re

from common import BIG, WRONG, Case, endless_lots, finite_lots, some_bowls, some_grids, some_rows, some_tables
from keptbowls.degrees import averaged, is_kept_poly
from keptbowls.errors import InvalidText
from keptbowls.forms import Form
from keptbowls.lots import Lot
from keptbowls.readers import read
from keptbowls.squares import is_squares, squares
from keptbowls.tables import idle
from keptbowls.texts import written
from test_texts import KNOWN

NUMBER = r"(?:0|-?[1-9][0-9]*)"
COUNT = r"(?:0|[1-9][0-9]*)"


def numbers_in(text):
    return [int(one) for one in re.findall(r"-?[0-9]+", text)]


def determinant(rows):
    if len(rows) == 1:
        return rows[0][0]
    return sum((-1) ** at * number * determinant([row[:at] + row[at + 1:] for row in rows[1:]]) for at, number in enumerate(rows[0]))


def grid(text):
    """The rows that are written so, None if it is no grid."""
    if not re.fullmatch(rf"{NUMBER}([,;]{NUMBER})*", text):
        return None
    rows = [numbers_in(row) for row in text.split(";")]
    return rows if len(rows) <= 3 and all(len(row) == len(rows) for row in rows) else None


def is_table(text):
    return grid(text) is not None and determinant(grid(text)) in (1, -1)


def is_form(text):
    rows = grid(text)
    return rows is not None and all(rows[i][j] == rows[j][i] for i in range(len(rows)) for j in range(len(rows)))


def is_written(lines):
    """Whether these are all lines of a written form: told by patterns, whole form by whole form."""
    first, more = lines[0] if lines else "", lines[1:]
    if first == "lot":
        makers = [line[len("maker "):] for line in more if line.startswith("maker ")]
        if len(makers) != len(more) or not 1 <= len(makers) <= 4 or not all(is_table(maker) for maker in makers):
            return False
        return len({len(grid(maker)) for maker in makers}) == 1
    if first == "poly":
        if not all(re.fullmatch(rf"product {COUNT}(,{COUNT}){{0,2}} -?[1-9][0-9]*", line) for line in more):
            return False
        keys = [tuple(numbers_in(line.split(" ")[1])) for line in more]
        return keys == sorted(set(keys)) and len({len(key) for key in keys}) < 2 and all(sum(key) <= 6 for key in keys)
    if first == "squares":
        if not all(re.fullmatch(rf"square [1-9][0-9]* {NUMBER}(,{NUMBER}){{0,2}}", line) for line in more) or not more:
            return False
        rows = [numbers_in(line.split(" ")[2]) for line in more]
        return all(len(row) == len(rows) and not any(row[:at]) and row[at] for at, row in enumerate(rows))
    word, _, rest = first.partition(" ")
    if more:
        return False
    if word == "word":
        return rest == "-" or re.fullmatch(r"-?[1-4](\.-?[1-4]){0,59}", rest) is not None
    if word == "row":
        return re.fullmatch(rf"{NUMBER}(,{NUMBER}){{0,2}}", rest) is not None
    return is_table(rest) if word == "table" else word == "form" and is_form(rest)


def can_go_on(lines):
    """Whether some written form begins with these lines."""
    rests = [[], ["row 1"], ["maker 1"], ["square 1 1"]]
    for row in ("1,1", "0,1"), ("1,1,1", "0,1,1", "0,0,1"):
        squares_left = [f"square 1 {one}" for one in row]
        rests.extend(squares_left[at:] for at in range(len(squares_left)))
    return any(is_written(lines + rest) for rest in rests)


def wrong_line(text):
    """The wrong line, or None."""
    *lines, tail = text.split("\n")
    if not tail and is_written(lines):
        return None
    for at in range(1, len(lines) + 1):
        if not can_go_on(lines[:at]):
            return at
    return len(lines) + 1


class Read(Case):
    def test_known(self):
        for sort, known in KNOWN.items():
            for value, text in known:
                told = read(text)
                self.assertIs(type(told), tuple)
                self.assertEqual(told[0], sort)
                self.assertEqual(written(*told), text)
                if sort == "row":
                    value = tuple(value)
                if sort == "word":
                    value = list(value)
                if sort == "squares":
                    value = [(bottom, tuple(row)) for bottom, row in value]
                self.assertEqual(told[1], value)
                self.assertIs(type(told[1]), type(value))
        self.assertEqual(read(text="row 1,-2\n"), ("row", (1, -2)))

    def test_kinds_of_what_is_told(self):
        self.assertEqual(read("squares\nsquare 2 2,1\nsquare 6 0,3\n"), ("squares", [(2, (2, 1)), (6, (0, 3))]))
        told = read("squares\nsquare 2 2,1\nsquare 6 0,3\n")[1]
        self.assertEqual([type(told), type(told[0]), type(told[0][1])], [list, tuple, tuple])
        self.assertEqual([type(read("word -\n")[1]), type(read("row 0\n")[1]), type(read("poly\n")[1])], [list, tuple, dict])
        told = read("poly\nproduct 0,2 1\nproduct 1,1 -3\nproduct 2,0 1\n")[1]
        self.assertEqual(list(told.items()), [((0, 2), 1), ((1, 1), -3), ((2, 0), 1)])
        told = read("word 1.2\n")[1]
        told.append(3)
        self.assertEqual(read("word 1.2\n"), ("word", [1, 2]))

    def test_every_value_comes_back(self):
        for size in (1, 2, 3):
            for table, rows, row in zip(some_tables(size, 10, greatest=99), some_grids(size, 10, greatest=500), some_rows(size, 10, greatest=BIG)):
                self.assertEqual(read(written("table", table)), ("table", table))
                self.assertEqual(read(written("form", Form(rows))), ("form", Form(rows)))
                self.assertEqual(read(written("row", row)), ("row", row))
            for rows in some_bowls(size, 10):
                told = squares(Form(rows))
                self.assertEqual(read(written("squares", told)), ("squares", told))
                self.assertIs(is_squares(Form(rows), read(written("squares", told))[1]), True)
        for lot in finite_lots() + endless_lots():
            sort, told = read(written("lot", lot))
            self.assertEqual([sort, told, told.makers(), told.total], ["lot", lot, lot.makers(), lot.total])
        for lot in finite_lots():
            poly = averaged(lot, {(2,) + (0,) * (lot.size - 1): 1, (1,) * lot.size: -5})
            self.assertEqual(read(written("poly", poly)), ("poly", poly))
            self.assertIs(is_kept_poly(lot, read(written("poly", poly))[1]), True)


class WrongLines(Case):
    def wrong(self, text, line):
        self.assertEqual(wrong_line(text), line, text)
        self.fails(InvalidText, read, text, line=line)

    def test_no_string(self):
        for value in WRONG + [0, 1, ["row 1\n"], ("row 1\n",), idle(1), Lot([idle(1)])]:
            if not isinstance(value, str):
                self.fails(InvalidText, read, value, line=0)

    def test_what_lacks(self):
        for text, line in (("", 1), ("lot\n", 2), ("squares\n", 2), ("squares\nsquare 2 2,1\n", 3),
                           ("squares\nsquare 1 1,0,0\nsquare 1 0,1,0\n", 4), ("squares\nsquare 1 1,0,0\n", 3)):
            self.wrong(text, line)

    def test_first_lines(self):
        for text in ("\n", "row", "row 1", "lot", "poly", "squares", "row\n", "row \n", "row  1\n", " row 1\n", "row 1 \n", "row 1 2\n", "Row 1\n",
                     "row 01\n", "row -0\n", "row 00\n", "row -01\n", "row +1\n", "row 1,\n", "row ,1\n", "row 1,,2\n", "row 1,2,3,4\n", "row 1;2\n",
                     "row -\n", "row --1\n", "row 1-\n", "row one\n", "row 1.2\n", "row 1, 2\n", "rows 1\n", "numbers 1\n", "maker 1\n",
                     "product 1 1\n", "square 1 1\n", "lot \n", "lot 1\n", "poly \n", "poly {}\n", "squares 1\n", "word\n", "word \n", "word 0\n",
                     "word 5\n", "word -5\n", "word 1,2\n", "word 1.\n", "word .1\n", "word 1..2\n", "word --\n", "word -.1\n", "word 01\n", "word 1.-\n",
                     "word " + ".".join(["1"] * 61) + "\n", "table\n", "table 0\n", "table 2\n", "table 1,0;0,2\n", "table 1,1;1,1\n", "table 1,0,0;0,1,0\n",
                     "table 1,0;0\n", "table 1,0\n", "table 1;1\n", "table 1,0;0,1;\n", "table 1,0;0,-0\n", "table 1,0; 0,1\n", "table -1,0;0,01\n",
                     "table 1,0,0,0;0,1,0,0;0,0,1,0;0,0,0,1\n", "form\n", "form 1,2;3,4\n", "form 1,2;2\n", "form 1,2,3;2,1,0;3,1,0\n", "form 1 \n",
                     "form -0\n", "form 1,0;0,1,0\n", "\nrow 1\n", "\n\n", "-\n", "1\n", "row 1\trow\n"):
            self.wrong(text, 1)

    def test_lines_behind_the_end(self):
        for _, known in KNOWN.items():
            for _, text in known:
                for more in ("\n", "row 1\n", "x", "table 1\n", " ", "lot\n", "\n\n"):
                    self.wrong(text + more, text.count("\n") + 1)
        for sort in ("row", "table", "form", "word"):
            for _, text in KNOWN[sort]:
                for more in ("square 1 1\n", "square 1 1,0\n", "maker 1\n", "product 1,1 1\n"):
                    self.wrong(text + more, 2)
        for text in ("lot\n" + "maker 1\n" * 5, "lot\n" + "maker -1\n" * 4 + "maker 2\n"):
            self.wrong(text, 6)
        self.wrong("squares\nsquare 1 1\nsquare 1 1\n", 3)
        self.wrong("squares\nsquare 2 2,1\nsquare 6 0,3\nsquare 1 0,1\n", 4)

    def test_last_lines_without_their_end(self):
        for _, known in KNOWN.items():
            for _, text in known:
                self.wrong(text[:-1], text.count("\n"))
        self.wrong("lot\nmaker 1\nmaker -1", 3)
        self.wrong("poly\nproduct 1 1", 2)
        self.wrong("squares\nsquare 1 1", 2)

    def test_makers(self):
        self.wrong("lot\nmaker 2\n", 2)
        self.wrong("lot\nmaker 1\nmaker 1,0;0,1\n", 3)
        self.wrong("lot\nmaker 1,0;0,1\nmaker 1,0;0,-1\nmaker 1\nmaker 2\n", 4)
        for line in ("maker", "maker ", "maker 0", "maker 1 1", "maker  1", "Maker 1", "table 1", "maker 1,0;1,0", "maker 1,0;0,01", "", "maker 1 "):
            self.wrong(f"lot\nmaker 1\n{line}\nmaker 1\n", 3)
            self.wrong(f"lot\n{line}\n", 2)

    def test_products(self):
        for line in ("product 1,1 0", "product 1,1 -0", "product 1,1 01", "product 1,1", "product 1,1 1 1", "product 1,1,1 1", "product 1 1", "product 7,0 1",
                     "product 3,4 1", "product -1,2 1", "product 1,1,1,1 1", "product  1,1 1", "product 1,1  1", "1,1 1", "product 1;1 1", "product 01,1 1",
                     "product 0,0 1", "product 0,1 5", "product 0,1 1", "Product 1,1 1", "", "product 1,1 1 ", "product 1,x 1", "product - 1"):
            self.wrong(f"poly\nproduct 0,1 1\n{line}\nproduct 2,2 1\n", 3)
        self.wrong("poly\nproduct 2,0 1\nproduct 1,1 1\n", 3)
        self.wrong("poly\nproduct 1,0 1\nproduct 1,0 2\n", 3)
        self.wrong("poly\nproduct 0 0\n", 2)
        self.wrong("poly\nproduct 1,1,1,1 1\n", 2)

    def test_squares(self):
        for line in ("square 0 0,3", "square -6 0,3", "square 6 1,3", "square 6 0,0", "square 6 3", "square 6 0,3,0", "square 6", "square 6 0,3 1",
                     "square 06 0,3", "square 6 0,-0", "square 6 0;3", "Square 6 0,3", "", "square  6 0,3", "squares 6 0,3", "square - 0,3"):
            self.wrong(f"squares\nsquare 2 2,1\n{line}\n", 3)
        for line in ("square 2 0,1", "square 0 2,1", "square 2", "square 2 1,1,1,1", "square 2 -", "square 2,1 2", "square 1 0"):
            self.wrong(f"squares\n{line}\nsquare 6 0,3\n", 2)

    def test_changed_ones(self):
        source = random.Random("changed texts")
        known = [text for values in KNOWN.values() for _, text in values] + ["lot\n", "squares\nsquare 1 1,0,0\n", "poly\nproduct 0,1 2\nproduct 1,0 3\n"]
        seen = set()
        for _ in range(6000):
            text = source.choice(known)
            for _ in range(source.randint(1, 2)):
                at = source.randrange(len(text) + 1)
                deed = source.randrange(4)
                if deed == 0:
                    text = text[:at] + text[at + 1:]
                elif deed == 1:
                    text = text[:at] + source.choice("01236-,;. \nmrs") + text[at:]
                elif deed == 2:
                    text = text[:at] + source.choice("0124-,;. \n") + text[at + 1:]
                else:
                    lines = text.split("\n")
                    place = source.randrange(len(lines))
                    text = "\n".join(lines[:place] + source.choice([[], lines[place:place + 1] * 2]) + lines[place + 1:])
            line = wrong_line(text)
            seen.add(line)
            if line is None:
                self.assertEqual(written(*read(text)), text)
            else:
                self.fails(InvalidText, read, text, line=line)
        self.assertTrue({None, 1, 2, 3, 4} <= seen)
