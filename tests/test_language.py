"""What a program can see of the rules in ../shared/LANGUAGE.md; the numbers are those of the rules."""

import ast
import builtins
import os
import re
import unittest
import warnings

FOLDER = os.path.join(os.path.dirname(os.path.dirname(os.path.abspath(__file__))), "keptbowls")
LIBRARY = {"math": {"gcd", "lcm", "isqrt", "comb", "perm", "factorial"},
           "heapq": {"heappush", "heappop", "heapify", "heapreplace", "heappushpop"},
           "itertools": {"product", "combinations", "permutations"}}
BUILTINS = set("""len range enumerate zip min max sum abs sorted reversed int str bool bytes list tuple dict set frozenset
isinstance ord repr any all divmod iter next map Exception ValueError TypeError KeyError IndexError LookupError
ZeroDivisionError ArithmeticError OverflowError RuntimeError NotImplementedError AttributeError StopIteration
NotImplemented property staticmethod classmethod super""".split())
METHODS = set("""append clear copy count endswith extend find get index insert isalnum isalpha isdigit islower isspace isupper
items join keys ljust lower lstrip partition pop remove replace reverse rfind rjust rpartition rsplit rstrip setdefault
split splitlines startswith strip update upper values zfill bit_length""".split())
DOUBLES = set("""__init__ __eq__ __repr__ __str__ __len__ __enter__ __exit__ __call__ __iter__ __mul__ __add__ __contains__
__getitem__""".split())
BARRED = set("""register mro elements open input law version_info with_traceback add_note attrgetter breakpoint builtins compile
copyright credits delattr dir eval exec exit gc getattr globals hasattr help id importlib license locals methodcaller os
quit setattr type vars sys""".split())
BARRED_WORDS = re.compile(r"\b(type|typing|typing_extensions|enum|Enum|IntEnum|StrEnum|Flag|IntFlag|Generic|Protocol|ABC|ABCMeta"
                          r"|namedtuple|NamedTuple|TypedDict|TYPE_CHECKING|abstractmethod|_wall|_WallAttr)\b"
                          r"|dataclass|overload|contextmanager")
BARRED_NODES = (ast.Global, ast.AsyncFunctionDef, ast.AsyncFor, ast.AsyncWith, ast.Await, ast.Div, ast.MatMult, ast.Set,
                ast.SetComp, ast.GeneratorExp, ast.Yield, ast.YieldFrom, ast.Import, ast.Is, ast.IsNot,
                ast.NamedExpr, ast.Delete, ast.Nonlocal, ast.Match, ast.AnnAssign)
# Doctest leaves `_` among the builtins.
TAKEN = set(dir(builtins)) - {"_"}
FILES = sorted(os.listdir(FOLDER))


def text_of(file):
    with open(os.path.join(FOLDER, file), encoding="utf-8") as source:
        return source.read()


def bound_names(tree):
    """All names that a tree binds, with those of parameters."""
    for node in ast.walk(tree):
        if isinstance(node, ast.Name) and isinstance(node.ctx, ast.Store):
            yield node.id
        if isinstance(node, ast.arg):
            yield node.arg
        if isinstance(node, (ast.FunctionDef, ast.ClassDef)):
            yield node.name


def is_plain(value):
    """Whether a value may stand at module level inside another one."""
    return isinstance(value, (int, str)) or isinstance(value, tuple) and all(is_plain(one) for one in value)


def docstrings(tree):
    for node in ast.walk(tree):
        if isinstance(node, (ast.Module, ast.ClassDef, ast.FunctionDef)) and ast.get_docstring(node) is not None:
            yield node.body[0].value


class Language(unittest.TestCase):
    def each(self):
        for file in FILES:
            if file != "__pycache__":
                text = text_of(file)
                yield file, text, ast.parse(text)

    def test_files_l1_l10_l14(self):
        for file, text, tree in self.each():
            self.assertTrue(re.fullmatch(r"[a-z_]+\.py", file))
            self.assertTrue(all(" " <= sign <= "~" or sign == "\n" for sign in text))
            lines = text.split("\n")
            self.assertTrue(len(lines) <= 400 and max(len(line) for line in lines) <= 120)
            self.assertTrue(text.endswith("\n") and not text.endswith("\n\n"))
            for node in ast.walk(tree):
                if isinstance(node, ast.FunctionDef):
                    self.assertTrue(node.end_lineno - node.lineno < 40, node.name)

    def test_imports_l2_l16(self):
        comes_from = {}
        for file, _, tree in self.each():
            comes_from[file] = []
            for node in ast.walk(tree):
                if isinstance(node, ast.ImportFrom):
                    self.assertEqual([node.level, node.col_offset], [0, 0])
                    names = {alias.name for alias in node.names}
                    self.assertTrue(all(alias.asname is None for alias in node.names))
                    if node.module in LIBRARY:
                        self.assertTrue(names <= LIBRARY[node.module])
                        continue
                    folder, _, module = node.module.partition(".")
                    self.assertEqual(folder, "keptbowls")
                    comes_from[file].append(f"{module}.py")
                    made = ast.parse(text_of(f"{module}.py")).body
                    told = {one.targets[0].id for one in made if isinstance(one, ast.Assign)}
                    self.assertTrue(names <= told | {one.name for one in made if hasattr(one, "name")})
        while comes_from:
            ready = [file for file, others in comes_from.items() if not set(others) & set(comes_from)]
            self.assertTrue(ready, "files import from each other")
            for file in ready:
                del comes_from[file]

    def test_module_level_l3_l15(self):
        for _, _, tree in self.each():
            for node in tree.body:
                self.assertIsInstance(node, (ast.Expr, ast.ImportFrom, ast.FunctionDef, ast.ClassDef, ast.Assign))
                if isinstance(node, ast.Expr):
                    self.assertIsInstance(node.value, ast.Constant)
                if isinstance(node, ast.Assign):
                    self.assertIsInstance(node.targets[0], ast.Name)
                    told = ast.literal_eval(node.value)
                    parts = [*told, *told.values()] if isinstance(told, dict) else [told]
                    self.assertTrue(all(is_plain(one) for one in parts))

    def test_names_l8_l12_l15_l17(self):
        for _, text, tree in self.each():
            names = list(bound_names(tree))
            for name in names:
                self.assertTrue(name == "_" or name in DOUBLES or re.fullmatch(r"_?[A-Za-z][A-Za-z0-9_]*", name), name)
                self.assertFalse(name in BARRED | TAKEN, name)
            imported = {alias.name for node in tree.body if isinstance(node, ast.ImportFrom) for alias in node.names}
            classes = {node.name for node in tree.body if isinstance(node, ast.ClassDef)}
            methods = [one.name for node in tree.body if isinstance(node, ast.ClassDef) for one in node.body
                       if isinstance(one, ast.FunctionDef)]
            self.assertFalse([name for name in imported if names.count(name) > methods.count(name)])
            self.assertEqual([names.count(name) for name in classes], [1] * len(classes))
            for node in ast.walk(tree):
                if isinstance(node, ast.Name) and isinstance(node.ctx, ast.Load) and node.id in TAKEN:
                    self.assertIn(node.id, BUILTINS)
            bare = text
            for node in docstrings(tree):
                bare = bare.replace(node.value, "")
            bare = re.sub(r"#.*", "", bare)
            self.assertIsNone(BARRED_WORDS.search(bare))

    def test_statements_l4_l5_l6_l7(self):
        for _, _, tree in self.each():
            for node in ast.walk(tree):
                if isinstance(node, (ast.Is, ast.IsNot)):
                    continue
                self.assertNotIsInstance(node, BARRED_NODES)
                if isinstance(node, ast.FunctionDef):
                    self.assertIn([ast.unparse(one) for one in node.decorator_list], ([], ["property"], ["classmethod"]))
                if isinstance(node, ast.Try):
                    self.assertEqual([node.finalbody, node.orelse], [[], []])
                if isinstance(node, ast.Compare) and any(isinstance(op, (ast.Is, ast.IsNot)) for op in node.ops):
                    self.assertIn(ast.unparse(node.comparators[0]), ("None", "True", "False"))
                if isinstance(node, ast.BinOp) and isinstance(node.op, ast.Pow):
                    self.assertIsInstance(node.right, ast.Constant)

    def test_calls_l22_l23_l25(self):
        own = {node.name for _, _, tree in self.each() for node in ast.walk(tree) if isinstance(node, ast.FunctionDef)}
        for _, _, tree in self.each():
            for node in ast.walk(tree):
                if isinstance(node, ast.Call) and isinstance(node.func, ast.Attribute):
                    self.assertIn(node.func.attr, METHODS | own | {"isascii"})
                if isinstance(node, ast.Assign):
                    kept = isinstance(node.value, ast.Call) and ast.unparse(node.value.func)
                    self.assertNotIn(kept, ("zip", "enumerate", "reversed", "map"))
                if isinstance(node, ast.Raise):
                    self.assertIsInstance(node.exc, ast.Call)

    def test_classes_l5_l18_l28(self):
        own = [node for _, _, tree in self.each() for node in ast.walk(tree) if isinstance(node, ast.ClassDef)]
        methods, stored = {}, set()
        for made in own:
            for one in made.body:
                if isinstance(one, ast.FunctionDef):
                    methods.setdefault(one.name, []).append(bool(one.decorator_list))
            for node in ast.walk(made):
                if isinstance(node, ast.Attribute) and isinstance(node.ctx, ast.Store):
                    stored.add(node.attr)
            if any(one.name == "__getitem__" for one in made.body if isinstance(one, ast.FunctionDef)):
                self.assertIn("__iter__", [one.name for one in made.body if isinstance(one, ast.FunctionDef)])
        self.assertFalse(stored & set(methods))
        self.assertFalse((stored | set(methods)) & (BARRED | {"items", "keys", "values", "args", "format", "sort", "encode"}))
        # What is read off an object is stored somewhere, or a method or a property of this package or of Python.
        for _, _, tree in self.each():
            for node in ast.walk(tree):
                if isinstance(node, ast.Attribute) and isinstance(node.ctx, ast.Load):
                    self.assertIn(node.attr, stored | set(methods) | METHODS | {"isascii"})

    def test_errors_l19(self):
        own = {node.name for node in ast.parse(text_of("errors.py")).body if isinstance(node, ast.ClassDef)}
        for _, _, tree in self.each():
            imported = {alias.name for node in tree.body if isinstance(node, ast.ImportFrom) for alias in node.names}
            for node in ast.walk(tree):
                if isinstance(node, ast.ExceptHandler):
                    names = node.type.elts if isinstance(node.type, ast.Tuple) else [node.type]
                    self.assertTrue({name.id for name in names} <= own & imported)
                if isinstance(node, ast.Raise):
                    self.assertIn(node.exc.func.id, own & imported | {"TypeError"})

    def test_names_in_comprehensions_l7(self):
        kinds = (ast.ListComp, ast.DictComp, ast.SetComp, ast.GeneratorExp)
        for _, _, tree in self.each():
            for node in ast.walk(tree):
                if isinstance(node, kinds):
                    names = {one.id for part in node.generators for one in ast.walk(part.target) if isinstance(one, ast.Name)}
                    within = [one for one in ast.walk(node) if isinstance(one, kinds) and one is not node]
                    for inner in within:
                        other = {one.id for part in inner.generators for one in ast.walk(part.target) if isinstance(one, ast.Name)}
                        self.assertFalse((names & other) - {"_"})

    def test_strings_l27(self):
        for file, text, tree in self.each():
            for node in ast.walk(tree):
                if isinstance(node, ast.Constant) and isinstance(node.value, str):
                    self.assertNotIn("%", node.value)
                    self.assertFalse(node.value.endswith("._") or node.value.endswith(".__"))
                self.assertFalse(isinstance(node, ast.Constant) and isinstance(node.value, (float, complex, bytes)))
            with warnings.catch_warnings():
                warnings.simplefilter("error")
                compile(text, file, "exec")
