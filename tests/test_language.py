"""The package's own files keep to the part of Python that the program is written in (the rules L1 to L28).

Not all of these rules can be seen by a program; those that can be seen simply are looked at here.
"""

import ast
import builtins
import pathlib
import re
import unittest

PACKAGE = pathlib.Path(__file__).resolve().parent.parent / "doubthall"
FILES = sorted(path for path in PACKAGE.rglob("*") if path.is_file() and "__pycache__" not in path.parts)

OWN_NAMES = """len range enumerate zip min max sum abs sorted reversed int str bool list tuple dict set frozenset
    isinstance ord repr any all divmod Exception ValueError TypeError KeyError IndexError LookupError
    ZeroDivisionError ArithmeticError OverflowError RuntimeError NotImplementedError StopIteration""".split()
OWN_METHODS = """append clear copy count endswith extend find get index insert isalnum isalpha isdigit islower isspace
    isupper items join keys ljust lower lstrip partition pop remove replace reverse rfind rjust rpartition rsplit
    rstrip setdefault split splitlines startswith strip update upper values zfill bit_length""".split()
DOUBLE = ("__init__", "__eq__", "__repr__", "__str__", "__len__")
NO_NAMES = """attrgetter breakpoint builtins compile copyright credits delattr dir eval exec exit gc getattr globals
    hasattr help id importlib license locals methodcaller os quit setattr super type vars sys register mro elements
    open input version_info with_traceback add_note""".split()
NO_WORDS = """type typing typing_extensions enum Enum IntEnum StrEnum Flag IntFlag Generic Protocol ABC ABCMeta
    namedtuple NamedTuple TypedDict TYPE_CHECKING abstractmethod""".split()
WALKERS = "list tuple dict sorted sum any all enumerate zip".split()
NODES = """Module FunctionDef arguments arg ClassDef Return Assign AugAssign For While If Raise Try ExceptHandler Expr
    Pass Break Continue BoolOp And Or BinOp UnaryOp Not USub Invert IfExp Dict Compare Call JoinedStr FormattedValue
    Constant Attribute Subscript Slice Name List Tuple ListComp comprehension Lambda Load Store Add Sub Mult
    FloorDiv Mod Pow BitAnd BitOr BitXor LShift RShift Eq NotEq Lt LtE Gt GtE Is IsNot In NotIn ImportFrom
    alias Set""".split()


def parsed(path):
    return ast.parse(path.read_text(encoding="utf-8"))


def nodes(kind):
    """Each node of the kind in the package, with the place to tell of it."""
    for path in FILES:
        for node in ast.walk(parsed(path)):
            if isinstance(node, kind):
                yield f"{path.name}:{getattr(node, 'lineno', 0)}", node


def bound_names(node):
    """The names that a node binds."""
    if isinstance(node, (ast.FunctionDef, ast.ClassDef)):
        return [node.name]
    if isinstance(node, ast.arg):
        return [node.arg]
    if isinstance(node, ast.Name) and isinstance(node.ctx, ast.Store):
        return [node.id]
    if isinstance(node, ast.ImportFrom):
        return [alias.asname or alias.name for alias in node.names]
    return []


class Files(unittest.TestCase):
    def test_only_files_with_plain_names(self):
        self.assertTrue(FILES)
        for path in FILES:
            self.assertRegex(path.name, r"\A(__init__|__main__|[a-z][a-z0-9_]*)\.py\Z")
            self.assertNotIn(path.stem, dir(builtins))
        self.assertIn("__init__.py", [path.name for path in FILES])

    def test_size_and_signs(self):
        for path in FILES:
            text = path.read_bytes().decode("ascii")
            self.assertRegex(text, r"\A[\n -~]*\Z", path.name)
            self.assertLessEqual(len(text.split("\n")), 400, path.name)
            self.assertLessEqual(max(len(line) for line in text.split("\n")), 120, path.name)
        for place, node in nodes(ast.FunctionDef):
            self.assertLessEqual(node.end_lineno - node.lineno + 1, 40, place)

    def test_words_that_stand_nowhere(self):
        for path in FILES:
            text = path.read_text()
            for word in NO_WORDS:
                self.assertIsNone(re.search(rf"\b{word}\b", text), (path.name, word))
            self.assertIsNone(re.search("dataclass|overload|contextmanager", text), path.name)


class Code(unittest.TestCase):
    def test_only_the_told_forms(self):
        for place, node in nodes(ast.AST):
            self.assertIn(type(node).__name__, NODES, place)

    def test_imports(self):
        drawn = {}
        for path in FILES:
            mine = drawn.setdefault(path.stem, set())
            for node in ast.walk(parsed(path)):
                if isinstance(node, ast.ImportFrom):
                    self.assertRegex(node.module, r"\Adoubthall\.[a-z_]+\Z", path.name)
                    self.assertEqual(node.level, 0)
                    mine.add(node.module.split(".")[1])
                    source = parsed(PACKAGE / (node.module.split(".")[1] + ".py")).body
                    defined = [name for part in source if not isinstance(part, ast.ImportFrom)
                               for inner in [part] + getattr(part, "targets", []) for name in bound_names(inner)]
                    for alias in node.names:
                        self.assertIn(alias.name, defined, path.name)
        while drawn:
            free = [stem for stem, below in drawn.items() if not below & set(drawn)]
            self.assertTrue(free, "files that draw from one another")
            drawn = {stem: below for stem, below in drawn.items() if stem not in free}

    def test_the_top_of_a_module(self):
        for path in FILES:
            names = []
            for number, node in enumerate(parsed(path).body):
                kinds = (ast.ImportFrom, ast.FunctionDef, ast.ClassDef, ast.Assign)
                docstring = number == 0 and isinstance(node, ast.Expr) and isinstance(node.value, ast.Constant)
                self.assertTrue(docstring or isinstance(node, kinds), (path.name, node.lineno))
                for inner in [node] + getattr(node, "targets", []):
                    names += bound_names(inner)
            self.assertEqual(len(names), len(set(names)), path.name)

    def test_functions_and_classes(self):
        for place, node in nodes((ast.FunctionDef, ast.Lambda)):
            self.assertIsNone(node.args.vararg or node.args.kwarg, place)
            self.assertEqual(node.args.kwonlyargs + node.args.posonlyargs, [], place)
            self.assertEqual(getattr(node, "decorator_list", []), [], place)
        for place, node in nodes(ast.ClassDef):
            self.assertLessEqual(len(node.bases), 1, place)
            self.assertEqual(node.keywords + node.decorator_list, [], place)
            for part in node.body:
                self.assertIsInstance(part, (ast.FunctionDef, ast.Pass), place)

    def test_statements(self):
        for place, node in nodes(ast.Assign):
            self.assertEqual(len(node.targets), 1, place)
            self.assertNotIsInstance(node.targets[0], (ast.Tuple, ast.List), place)
        for place, node in nodes((ast.For, ast.While)):
            self.assertEqual(node.orelse, [], place)
        for place, node in nodes(ast.ListComp):
            self.assertEqual(len(node.generators), 1, place)
            self.assertLessEqual(len(node.generators[0].ifs), 1, place)
        for place, node in nodes(ast.Constant):
            self.assertNotIsInstance(node.value, (float, bytes, complex), place)
            self.assertFalse(isinstance(node.value, str) and chr(37) in node.value, place)
        for place, node in nodes(ast.Compare):
            for operator, side in zip(node.ops, node.comparators):
                if isinstance(operator, (ast.Is, ast.IsNot)):
                    self.assertTrue(isinstance(side, ast.Constant) and side.value in (None, True, False), place)

    def test_names(self):
        for place, node in nodes(ast.AST):
            for name in bound_names(node):
                self.assertTrue(re.fullmatch("[A-Za-z][A-Za-z0-9_]*", name) or name in DOUBLE, (place, name))
                self.assertNotIn(name, NO_NAMES, place)
                self.assertNotIn(name, dir(builtins), place)

    def test_no_local_is_called_like_a_class_or_an_import_of_its_file(self):
        for path in FILES:
            tree = parsed(path)
            taken = [name for part in tree.body if isinstance(part, (ast.ClassDef, ast.ImportFrom))
                     for name in bound_names(part)]
            for node in ast.walk(tree):
                if isinstance(node, (ast.arg, ast.Name)):
                    for name in bound_names(node):
                        self.assertNotIn(name, taken, f"{path.name}:{node.lineno}")

    def test_methods_and_values_of_objects(self):
        methods = [part.name for place, node in nodes(ast.ClassDef) for part in node.body
                   if isinstance(part, ast.FunctionDef) and part.name not in DOUBLE]
        values = [node.attr for place, node in nodes(ast.Attribute) if isinstance(node.ctx, ast.Store)]
        self.assertEqual(set(methods) & set(values), set())
        pythons_own = [name for kind in (str, int, list, tuple, dict, set, bytes) for name in dir(kind)]
        for name in methods + values:
            self.assertNotIn(name, pythons_own)

    def test_names_of_pythons_own(self):
        for place, node in nodes(ast.Name):
            if node.id in dir(builtins):
                self.assertIn(node.id, OWN_NAMES, place)

    def test_attributes(self):
        own = [node.name for place, node in nodes(ast.FunctionDef)]
        own += [node.attr for place, node in nodes(ast.Attribute) if isinstance(node.ctx, ast.Store)]
        for place, node in nodes(ast.Attribute):
            self.assertIn(node.attr, OWN_METHODS + own, place)
            self.assertNotIn(node.attr, NO_NAMES + ["args", "format", "format_map"], place)

    def test_errors_that_are_taken(self):
        own = [node.name for node in parsed(PACKAGE / "errors.py").body if isinstance(node, ast.ClassDef)]
        for place, node in nodes(ast.ExceptHandler):
            self.assertIsInstance(node.type, ast.Name, place)
            self.assertIn(node.type.id, own, place)

    def test_f_strings_hold_plain_names(self):
        for place, node in nodes(ast.FormattedValue):
            self.assertIsInstance(node.value, ast.Name, place)
            self.assertIsNone(node.format_spec, place)

    def test_what_is_walked_on_the_spot(self):
        walked = set()
        for place, node in nodes((ast.For, ast.comprehension)):
            walked.add(ast.dump(node.iter, include_attributes=True))
        for place, node in nodes(ast.Call):
            if getattr(node.func, "id", None) in WALKERS:
                walked.update(ast.dump(part, include_attributes=True) for part in node.args[:1])
        for place, node in nodes(ast.Call):
            if getattr(node.func, "id", None) in ("zip", "enumerate", "reversed", "range"):
                self.assertIn(ast.dump(node, include_attributes=True), walked, place)

    def test_no_default_is_a_list_or_dict(self):
        for place, node in nodes(ast.FunctionDef):
            for value in node.args.defaults:
                self.assertIsInstance(value, (ast.Constant, ast.Tuple), place)


if __name__ == "__main__":
    unittest.main()
