"""The rules of the language that can be read off the files one by one; the others are left to the reader."""

import ast
import builtins
import pathlib
import re
import unittest
import warnings

PACKAGE = pathlib.Path(__file__).resolve().parent.parent / "treeturns"
FILES = sorted(path for path in PACKAGE.rglob("*.py"))

BUILTINS = """len range enumerate zip min max sum abs sorted reversed int str bool list tuple dict set isinstance ord
repr any all divmod iter next map Exception ValueError TypeError KeyError IndexError LookupError ZeroDivisionError
ArithmeticError OverflowError RuntimeError NotImplementedError AttributeError StopIteration NotImplemented super
property staticmethod classmethod""".split()
METHODS = """append clear copy count endswith extend find get index insert isalnum isalpha isdigit islower isspace
isupper items join keys ljust lower lstrip partition pop remove replace reverse rfind rjust rpartition rsplit rstrip setdefault
split splitlines startswith strip update upper values zfill bit_length add discard removeprefix removesuffix""".split()
DUNDERS = """__init__ __eq__ __repr__ __len__ __call__ __iter__ __lt__ __le__ __gt__ __ge__ __mul__ __imul__ __invert__
__contains__ __getitem__ __setitem__""".split()
NODES = """Module Import ImportFrom alias FunctionDef arguments arg ClassDef Return Assign AugAssign For While If Raise
Try ExceptHandler Assert Delete Nonlocal Expr Pass Break Continue BoolOp And Or BinOp Add Sub Mult FloorDiv Mod Pow
LShift RShift BitOr BitXor BitAnd UnaryOp Invert Not USub Lambda IfExp Dict Set ListComp SetComp DictComp comprehension
Compare Eq NotEq Lt LtE Gt GtE Is IsNot In NotIn Call keyword JoinedStr FormattedValue Constant Attribute Subscript
Slice Name Load Store Del List Tuple Starred""".split()
BARRED = """register mro elements open input law version_info with_traceback add_note breakpoint builtins compile
copyright credits delattr dir eval exec exit gc getattr globals hasattr help id importlib license locals methodcaller attrgetter
os quit setattr type vars sys""".split()
WORDS = r"\b(type|typing|typing_extensions|enum|Enum|Flag|Generic|Protocol|ABC|namedtuple|NamedTuple|TypedDict)\b"
LIBRARY = {"heapq": ["heappush", "heappop", "heapify"], "math": ["gcd", "lcm", "isqrt", "comb"],
           "itertools": ["product", "combinations", "permutations"], "collections": ["defaultdict"]}


def trees():
    for path in FILES:
        yield path, ast.parse(path.read_text(encoding="ascii"))


def everything():
    for path, tree in trees():
        for node in ast.walk(tree):
            yield f"{path.name}:{getattr(node, 'lineno', 0)}", node


def bound(node):
    """The names that a node binds."""
    if isinstance(node, (ast.FunctionDef, ast.ClassDef)):
        return [node.name]
    if isinstance(node, ast.arg):
        return [node.arg]
    if isinstance(node, ast.Name) and isinstance(node.ctx, ast.Store):
        return [node.id]
    return []


def plainly(node):
    """Whether a value is plainly a number or a string."""
    if isinstance(node, ast.Call):
        return ast.unparse(node.func) in ("len", "int", "str", "ord", "repr")
    return isinstance(node, ast.Constant)


class Files(unittest.TestCase):

    def test_names_and_sizes(self):
        inside = [path for path in PACKAGE.rglob("*") if "__pycache__" not in path.parts]
        self.assertEqual(sorted(inside), FILES)
        for path in FILES:
            self.assertRegex(path.name, r"^[a-z_]+\.py$")
            lines = path.read_bytes().split(b"\n")
            self.assertLess(len(lines), 400, path)
            for line in lines:
                self.assertRegex(line, rb"^[ -~]{0,120}$", path)

    def test_no_warning(self):
        for path in FILES:
            with warnings.catch_warnings():
                warnings.simplefilter("error")
                compile(path.read_text(), str(path), "exec")

    def test_words(self):
        for path in FILES:
            self.assertIsNone(re.search(WORDS, path.read_text()), path)


class Code(unittest.TestCase):

    def test_only_known_forms(self):
        for place, node in everything():
            self.assertIn(type(node).__name__, NODES, place)

    def test_functions_are_short_and_undecorated(self):
        for place, node in everything():
            if isinstance(node, ast.FunctionDef):
                self.assertLessEqual(node.end_lineno - node.lineno + 1, 40, place)
                known = [f"{node.name}.setter", "property", "staticmethod", "classmethod"]
                for decorator in node.decorator_list:
                    self.assertIn(ast.unparse(decorator), known, place)
                if node.name.startswith("__"):
                    self.assertIn(node.name, DUNDERS, place)

    def test_imports(self):
        for place, node in everything():
            self.assertNotIsInstance(node, ast.Import, place)
            if isinstance(node, ast.ImportFrom):
                self.assertEqual(node.level, 0, place)
                for name in node.names:
                    self.assertIsNone(name.asname, place)
                    if node.module in LIBRARY:
                        self.assertIn(name.name, LIBRARY[node.module], place)
                    else:
                        source = PACKAGE / (node.module.removeprefix("treeturns.") + ".py")
                        self.assertRegex(source.read_text(), rf"(?m)^((def|class) {name.name}\b|{name.name} = )", place)

    def test_imports_go_one_way(self):
        needs = {path.stem: [node.module.removeprefix("treeturns.") for node in ast.walk(tree)
                             if isinstance(node, ast.ImportFrom) and node.module not in LIBRARY]
                 for path, tree in trees()}
        while needs:
            free = [name for name, others in needs.items() if not [other for other in others if other in needs]]
            self.assertTrue(free, needs)
            needs = {name: others for name, others in needs.items() if name not in free}

    def test_module_level(self):
        for path, tree in trees():
            for node in tree.body:
                self.assertIn(type(node).__name__, ["Expr", "ImportFrom", "FunctionDef", "ClassDef", "Assign"], path)
                if isinstance(node, ast.Expr):
                    self.assertIsInstance(node.value, ast.Constant, path)
            rows = [part for node in tree.body for part in getattr(node, "targets", [node])]
            names = [name for row in rows for name in bound(row)]
            names += [name.name for node in tree.body if isinstance(node, ast.ImportFrom) for name in node.names]
            self.assertEqual(len(names), len(set(names)), path)

    def test_names(self):
        for place, node in everything():
            for name in bound(node):
                self.assertNotIn(name, BARRED, place)
                self.assertRegex(name, r"^(_?[A-Za-z]\w*|_|__\w+__)$", place)
                self.assertNotIn(name, vars(builtins), place)
            if isinstance(node, ast.Name) and node.id in vars(builtins):
                self.assertIn(node.id, BUILTINS, place)

    def test_no_local_name_is_that_of_an_import_or_a_class(self):
        for path, tree in trees():
            outer = [name.name for node in tree.body if isinstance(node, ast.ImportFrom) for name in node.names]
            outer += [node.name for node in tree.body if isinstance(node, ast.ClassDef)]
            for function in [node for node in ast.walk(tree) if isinstance(node, ast.FunctionDef)]:
                for node in [inner for row in [function.args] + function.body for inner in ast.walk(row)]:
                    self.assertFalse(set(bound(node)) & set(outer), f"{path.name} {function.name}")

    def test_methods(self):
        own = [row.name for _, node in everything() if isinstance(node, ast.ClassDef)
               for row in node.body if isinstance(row, ast.FunctionDef)]
        for place, node in everything():
            if isinstance(node, ast.Call) and isinstance(node.func, ast.Attribute):
                self.assertIn(node.func.attr, METHODS + own, place)

    def test_values(self):
        for place, node in everything():
            if isinstance(node, ast.Constant):
                self.assertIsInstance(node.value, (int, str, bool, type(None)), place)
                if isinstance(node.value, str):
                    self.assertNotIn(chr(37), node.value, place)
            if isinstance(node, ast.Compare):
                for sign, right in zip(node.ops, node.comparators):
                    if isinstance(sign, (ast.Is, ast.IsNot)):
                        self.assertIn(ast.unparse(right), ["None", "True", "False"], place)

    def test_what_is_sorted_or_compared_is_plainly_numbers_or_strings(self):
        # Moves have an order of their own, so nothing else may be given to these three.
        for place, node in everything():
            if isinstance(node, ast.Call) and ast.unparse(node.func) in ("sorted", "min", "max"):
                self.assertEqual(node.keywords, [], place)
                plain = [plainly(argument) for argument in node.args]
                if len(plain) == 1:
                    self.assertIsInstance(node.args[0], ast.ListComp, place)
                    plain = [plainly(node.args[0].elt)]
                self.assertIn(True, plain, place)

    def test_classes(self):
        for place, node in everything():
            if isinstance(node, ast.ClassDef):
                own = [row.name for row in node.body if isinstance(row, ast.FunctionDef)]
                self.assertEqual(len(own), len(set(own)), place)
                if "__getitem__" in own:
                    self.assertIn("__iter__", own, place)
                for row in node.body:
                    if isinstance(row, ast.FunctionDef) and row.name == "__len__":
                        self.assertRegex(ast.unparse(row.body[-1]), r"^return len\(", place)

    def test_no_sign_that_an_own_class_takes_over(self):
        for place, node in everything():
            if isinstance(node, ast.AugAssign):
                self.assertNotIsInstance(node.op, ast.Mult, place)
            if isinstance(node, ast.Call) and ast.unparse(node.func) == "reversed":
                self.assertRegex(ast.unparse(node.args[0]), r"^(range|list|tuple)\(", place)
            if isinstance(node, ast.Attribute):
                self.assertNotIn(node.attr, ["sort", "keys"], place)

    def test_errors(self):
        for place, node in everything():
            if isinstance(node, ast.Raise) and node.exc is not None:
                self.assertIsInstance(node.exc, ast.Call, place)
                self.assertIsInstance(node.exc.func, ast.Name, place)
            if isinstance(node, ast.ExceptHandler):
                self.assertIsNotNone(node.type, place)
                self.assertNotIn(ast.unparse(node.type), ["Exception", "TypeError", "AttributeError"], place)


if __name__ == "__main__":
    unittest.main()
