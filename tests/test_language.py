"""The form of the code: what of ../shared/LANGUAGE.md can be seen row by row."""

import ast
import builtins
import re
import unittest
from pathlib import Path

PACKAGE = Path(__file__).resolve().parent.parent / "clientmoves"

NODES = {  # L4 to L7: what a file may be made of
    "Module", "ImportFrom", "alias", "FunctionDef", "arguments", "arg", "ClassDef", "Lambda",
    "Assign", "AugAssign", "If", "While", "For", "Return", "Break", "Continue", "Pass", "Raise", "Try",
    "ExceptHandler", "Expr", "Call", "keyword", "Constant", "Name", "Attribute", "Subscript", "Slice",
    "List", "Tuple", "Dict", "Set", "ListComp", "comprehension", "BinOp", "BoolOp", "UnaryOp", "Compare",
    "IfExp", "JoinedStr", "FormattedValue", "Load", "Store",
    "Add", "Sub", "Mult", "FloorDiv", "Mod", "Pow", "BitAnd", "BitOr", "BitXor", "LShift", "RShift", "Invert",
    "And", "Or", "Not", "USub", "UAdd", "Eq", "NotEq", "Lt", "LtE", "Gt", "GtE", "In", "NotIn", "Is", "IsNot",
}
OWN_NAMES = set(  # L8
    "len range enumerate zip min max sum abs sorted reversed int str bool list tuple dict set frozenset isinstance "
    "ord repr any all divmod Exception ValueError TypeError KeyError IndexError LookupError ZeroDivisionError "
    "ArithmeticError OverflowError RuntimeError NotImplementedError AttributeError StopIteration".split())
METHODS = set(  # L25
    "append clear copy count endswith extend find get index insert isalnum isalpha isdigit islower isspace isupper "
    "items join keys ljust lower lstrip partition pop remove replace reverse rfind rjust rpartition rsplit rstrip "
    "setdefault split splitlines startswith strip update upper values zfill bit_length".split())
UNUSED = set(  # L17
    "register mro elements open input version_info with_traceback add_note attrgetter breakpoint builtins compile "
    "copyright credits delattr dir eval exec exit gc getattr globals hasattr help id importlib license locals "
    "methodcaller os quit setattr super sys type vars format format_map".split())
WORDS = re.compile(
    r"\b(type|typing|typing_extensions|enum|Enum|IntEnum|StrEnum|Flag|IntFlag|Generic|Protocol|ABC|ABCMeta|namedtuple|"
    r"NamedTuple|TypedDict|TYPE_CHECKING|abstractmethod)\b|dataclass|overload|contextmanager")
OF_PYTHON = {name for name in dir(builtins) if not name.startswith("_")}
SPECIAL = {"__init__", "__eq__", "__repr__", "__str__", "__len__"}


def files():
    return [path for path in sorted(PACKAGE.rglob("*")) if "__pycache__" not in path.parts]


def names_of(node):
    if isinstance(node, ast.Name):
        return [node.id]
    if isinstance(node, (ast.FunctionDef, ast.ClassDef)):
        return [node.name]
    if isinstance(node, ast.arg):
        return [node.arg]
    if isinstance(node, ast.Attribute):
        return [node.attr]
    return []


def bound_in(tree):
    return {name for node in ast.walk(tree) for name in names_of(node)
            if not isinstance(node, ast.Attribute) and not isinstance(getattr(node, "ctx", None), ast.Load)}


class Language(unittest.TestCase):
    def setUp(self):
        self.texts = {path: path.read_text(encoding="utf-8") for path in files()}
        self.trees = {path: ast.parse(text) for path, text in self.texts.items()}

    def test_files_lie_flat_and_are_plainly_named(self):
        self.assertTrue((PACKAGE / "__init__.py").is_file())
        for path in self.texts:
            self.assertRegex(path.name, r"\A([a-z][a-z0-9_]*|__init__|__main__)\.py\Z")
            self.assertNotRegex(path.stem, r"\A(tests?|testing|test_.*|site|conftest|sitecustomize|usercustomize)\Z")
            self.assertFalse(path.stem in OF_PYTHON)

    def test_sizes_signs_and_words(self):
        for path, text in self.texts.items():
            self.assertRegex(text, r"\A[ -~\n]*\Z", path)
            self.assertLessEqual(len(text.splitlines()), 399, path)
            self.assertLessEqual(max([0] + [len(row) for row in text.splitlines()]), 120, path)
            self.assertIsNone(WORDS.search(text), path)

    def test_statements_and_expressions(self):
        for path, tree in self.trees.items():
            for node in ast.walk(tree):
                self.assertIn(node.__class__.__name__, NODES, (path.name, getattr(node, "lineno", 0)))
                if isinstance(node, ast.FunctionDef):
                    self.assertLessEqual(node.end_lineno - node.lineno + 1, 40, node.name)
                    self.assertEqual(node.decorator_list, [])
                    self.assertIsNone(node.args.vararg or node.args.kwarg)
                    self.assertEqual(node.args.kwonlyargs + node.args.posonlyargs, [])
                if isinstance(node, (ast.For, ast.While)):
                    self.assertEqual(node.orelse, [])
                if isinstance(node, ast.Assign):
                    self.assertEqual(len(node.targets), 1)
                if isinstance(node, ast.ListComp):
                    self.assertEqual(len(node.generators), 1)
                    self.assertLessEqual(len(node.generators[0].ifs), 1)
                if isinstance(node, ast.Constant):
                    self.assertIn(node.value.__class__, (int, str, bool, None.__class__))

    def test_expressions_by_themselves_are_calls_or_a_file_s_docstring(self):
        for path, tree in self.trees.items():
            for node in ast.walk(tree):
                if isinstance(node, ast.Expr) and node != tree.body[0]:
                    self.assertIsInstance(node.value, ast.Call, (path.name, node.lineno))

    def test_the_top_of_a_file(self):
        for path, tree in self.trees.items():
            self.assertIsNotNone(ast.get_docstring(tree), path)
            for node in tree.body[1:]:
                self.assertIsInstance(node, (ast.ImportFrom, ast.FunctionDef, ast.ClassDef, ast.Assign), path)

    def test_imports_are_of_the_package_s_own_from_where_the_name_is_defined_and_in_no_ring(self):
        drawn = {}
        for path, tree in self.trees.items():
            drawn[path.stem] = set()
            for node in ast.walk(tree):
                if isinstance(node, ast.ImportFrom):
                    self.assertIn(node, tree.body)
                    source = PACKAGE / (node.module.removeprefix("clientmoves.") + ".py")
                    self.assertIn(source, self.trees)
                    drawn[path.stem].add(source.stem)
                    for alias in node.names:
                        self.assertIsNone(alias.asname)
                        self.assertIn(alias.name, self.top_names(self.trees[source]))
        while drawn:
            free = [name for name in drawn if not drawn[name] & set(drawn)]
            self.assertTrue(free, drawn)
            drawn = {name: drawn[name] for name in drawn if name not in free}

    def top_names(self, tree):
        names = [node.name for node in tree.body if isinstance(node, (ast.FunctionDef, ast.ClassDef))]
        names += [node.targets[0].id for node in tree.body if isinstance(node, ast.Assign)]
        self.assertEqual(len(names), len(set(names)))
        return names

    def test_names(self):
        for path, tree in self.trees.items():
            bound = bound_in(tree)
            self.assertFalse([name for name in bound if name in OF_PYTHON], path)
            imported = {alias.name for node in tree.body if isinstance(node, ast.ImportFrom) for alias in node.names}
            self.assertEqual(bound & imported, set(), path)
            for node in ast.walk(tree):
                for name in names_of(node):
                    self.assertTrue(re.fullmatch(r"[A-Za-z][A-Za-z0-9_]*", name) or name in SPECIAL, name)
                    self.assertNotIn(name, UNUSED)
                if isinstance(node, ast.Name):
                    self.assertIn(node.id, bound | imported | OWN_NAMES, (path.name, node.lineno))

    def test_methods_called_are_own_or_allowed(self):
        own = {node.name for tree in self.trees.values() for part in tree.body if isinstance(part, ast.ClassDef)
               for node in part.body}
        values = {node.attr for tree in self.trees.values() for node in ast.walk(tree)
                  if isinstance(node, ast.Attribute) and isinstance(node.ctx, ast.Store)}
        self.assertEqual(own & values, set())
        for path, tree in self.trees.items():
            for node in ast.walk(tree):
                if isinstance(node, ast.Call) and isinstance(node.func, ast.Attribute):
                    self.assertIn(node.func.attr, own | METHODS, (path.name, node.lineno))

    def test_answers_is_written_in_house_alone(self):
        where = [path.name for path, tree in self.trees.items() if "answers" in self.top_names(tree)]
        self.assertEqual(where, ["house.py"])


if __name__ == "__main__":
    unittest.main()
