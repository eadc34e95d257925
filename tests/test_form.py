"""The form of the package's own files: what can be seen of it without running them."""

import ast
import builtins
import pathlib
import re
import unittest

PACKAGE = pathlib.Path(__file__).resolve().parent.parent / "boardscores"
FILES = sorted(PACKAGE.glob("*.py"))

OWN_NAMES = set(
    "len range enumerate zip min max sum abs sorted reversed int str bool list tuple dict set frozenset isinstance ord "
    "repr any all divmod Exception ValueError TypeError KeyError IndexError LookupError ZeroDivisionError "
    "ArithmeticError OverflowError RuntimeError NotImplementedError AttributeError StopIteration".split()
)
OWN_METHODS = set(
    "append clear copy count endswith extend find get index insert isalnum isalpha isdigit islower isspace isupper "
    "items join keys ljust lower lstrip partition pop remove replace reverse rfind rjust rpartition rsplit rstrip "
    "setdefault split splitlines startswith strip update upper values zfill bit_length".split()
)
OTHER_WORDS = re.compile(
    r"\b(type|typing|typing_extensions|enum|Enum|IntEnum|StrEnum|Flag|IntFlag|Generic|Protocol|ABC|ABCMeta|namedtuple"
    r"|NamedTuple|TypedDict|TYPE_CHECKING|abstractmethod)\b|dataclass|overload|contextmanager"
)
OTHER_NAMES = set("register mro elements open input version_info with_traceback add_note format format_map".split())
NODES = (
    ast.Module, ast.Expr, ast.Constant, ast.ImportFrom, ast.alias, ast.FunctionDef, ast.ClassDef, ast.arguments, ast.arg,
    ast.Assign, ast.AugAssign, ast.If, ast.While, ast.For, ast.Return, ast.Break, ast.Continue, ast.Pass, ast.Raise,
    ast.Try, ast.ExceptHandler, ast.Call, ast.keyword, ast.Attribute, ast.Subscript, ast.Slice, ast.Name, ast.List,
    ast.Tuple, ast.Dict, ast.ListComp, ast.comprehension, ast.IfExp, ast.BinOp, ast.BoolOp, ast.UnaryOp, ast.Compare,
    ast.Lambda, ast.JoinedStr, ast.FormattedValue, ast.expr_context, ast.operator, ast.boolop, ast.unaryop, ast.cmpop,
)

WALKED = ("zip", "enumerate", "reversed", "range", "items", "keys", "values")
BUILT_IN = set(vars(builtins))


def called_by(node):
    """The name that a node of the tree bears, if it is one that bears a name."""
    for field in ("id", "attr", "arg", "name"):
        if isinstance(getattr(node, field, None), str):
            return getattr(node, field)
    return None


def trees():
    return [(path, ast.parse(path.read_text(encoding="ascii"))) for path in FILES]


def top_names(tree):
    """The names bound at a file's top, each as often as it is bound; and those among them of classes and imports."""
    names, apart = [], []
    for node in tree.body:
        if isinstance(node, ast.ImportFrom):
            apart += [alias.asname or alias.name for alias in node.names]
        elif isinstance(node, ast.ClassDef):
            apart.append(node.name)
        elif isinstance(node, ast.FunctionDef):
            names.append(node.name)
        elif isinstance(node, ast.Assign):
            names.append(node.targets[0].id)
    return names + apart, apart


def drawn_from(tree):
    return [node.module.split(".")[1] for node in tree.body if isinstance(node, ast.ImportFrom)]


class FormTest(unittest.TestCase):
    def nodes(self):
        for path in FILES:
            for node in ast.walk(ast.parse(path.read_text(encoding="ascii"))):
                yield path.name, node

    def test_files(self):
        self.assertIn("__init__.py", [path.name for path in FILES])
        for path in PACKAGE.iterdir():
            if path.name != "__pycache__":
                self.assertTrue(path.is_file() and re.fullmatch(r"[a-z][a-z0-9_]*\.py|__init__\.py", path.name), path)

    def test_signs_and_lines(self):
        for path in FILES:
            text = path.read_bytes().decode("ascii")
            self.assertIsNone(re.search(r"[^ -~\n]", text), path)
            self.assertIsNone(OTHER_WORDS.search(text), path)
            self.assertLessEqual(len(text.splitlines()), 400, path)
            self.assertLessEqual(max(len(line) for line in text.splitlines()), 120, path)

    def test_parts_of_the_language(self):
        for name, node in self.nodes():
            self.assertIsInstance(node, NODES, name)
            self.assertNotIsInstance(node, (ast.Div, ast.MatMult), name)
            if isinstance(node, ast.Constant):
                self.assertNotIsInstance(node.value, (float, complex, bytes), name)
            if isinstance(node, ast.Assign):
                self.assertEqual(len(node.targets), 1, name)
            if isinstance(node, (ast.For, ast.While)):
                self.assertEqual(node.orelse, [], name)
            if isinstance(node, ast.FunctionDef):
                self.assertLessEqual(node.end_lineno - node.lineno + 1, 40, node.name)
                self.assertEqual(node.decorator_list, [], node.name)

    def test_imports(self):
        for name, node in self.nodes():
            if isinstance(node, ast.ImportFrom):
                self.assertEqual(node.level, 0, name)
                self.assertRegex(node.module, r"^boardscores\.[a-z_]+$", name)
                self.assertNotIn("*", [alias.name for alias in node.names], name)

    def test_imports_come_from_where_the_name_is_defined(self):
        found = {path.stem: tree for path, tree in trees()}
        for path, tree in trees():
            for node in tree.body:
                if isinstance(node, ast.ImportFrom):
                    source = found[node.module.split(".")[1]]
                    defined = [part.name for part in source.body if isinstance(part, (ast.FunctionDef, ast.ClassDef))]
                    for alias in node.names:
                        self.assertIn(alias.name, defined, path.name)

    def test_no_two_files_draw_from_one_another(self):
        left = {path.stem: drawn_from(tree) for path, tree in trees()}
        while left:
            free = [stem for stem, drawn in left.items() if not set(drawn) & set(left)]
            self.assertNotEqual(free, [], left)
            for stem in free:
                left.pop(stem)

    def test_names_of_a_files_top(self):
        for path, tree in trees():
            names, apart = top_names(tree)
            self.assertEqual(len(names), len(set(names)), path.name)
            for node in tree.body:
                self.assertIsInstance(node, (ast.Expr, ast.ImportFrom, ast.FunctionDef, ast.ClassDef, ast.Assign))
                if isinstance(node, ast.Assign):
                    inner = list(ast.walk(node.value))[1:]
                    self.assertFalse([part for part in inner if isinstance(part, (ast.List, ast.Dict))], path.name)

    def test_locals_bear_no_name_of_a_class_or_an_import(self):
        for path, tree in trees():
            apart = top_names(tree)[1]
            for outer in tree.body:
                if isinstance(outer, ast.Assign):
                    continue
                for node in ast.walk(outer):
                    if isinstance(node, ast.arg) or isinstance(node, ast.Name) and isinstance(node.ctx, ast.Store):
                        self.assertNotIn(called_by(node), apart, path.name)

    def test_walked_at_once(self):
        for path, tree in trees():
            walked = []
            for node in ast.walk(tree):
                if isinstance(node, (ast.For, ast.comprehension)):
                    walked.append(node.iter)
                if isinstance(node, ast.Call) and isinstance(node.func, ast.Name):
                    walked += node.args[:1]
            for node in ast.walk(tree):
                if isinstance(node, ast.Call) and called_by(node.func) in WALKED:
                    self.assertIn(node, walked, (path.name, node.lineno))

    def test_smaller_rules(self):
        for name, node in self.nodes():
            if isinstance(node, (ast.Pow, ast.Global, ast.Starred, ast.Set)):
                self.fail((name, node))
            if isinstance(node, ast.Constant) and isinstance(node.value, str):
                self.assertNotIn("%", node.value, name)
            if isinstance(node, ast.Compare) and isinstance(node.ops[0], (ast.Is, ast.IsNot)):
                self.assertIn(getattr(node.comparators[0], "value", 0), (None, True, False), name)
            if isinstance(node, ast.comprehension):
                self.assertLessEqual(len(node.ifs), 1, name)
            if isinstance(node, ast.ListComp):
                self.assertEqual(len(node.generators), 1, name)
            if isinstance(node, ast.ExceptHandler):
                self.assertNotIn(called_by(node.type), (None, "Exception", "TypeError"), name)
            if isinstance(node, (ast.FunctionDef, ast.arg)):
                self.assertIsNone(getattr(node, "returns", None) or getattr(node, "annotation", None), name)

    def test_names(self):
        for name, node in self.nodes():
            if isinstance(node, ast.Name) and node.id in BUILT_IN:
                self.assertIn(node.id, OWN_NAMES, name)
                self.assertIsInstance(node.ctx, ast.Load, name)
            called = called_by(node)
            if called is not None:
                self.assertNotIn(called, OTHER_NAMES, name)
                self.assertTrue(called == "__init__" or not called.startswith("_"), (name, called))
                if isinstance(node, (ast.arg, ast.FunctionDef, ast.ClassDef)):
                    self.assertFalse(called in BUILT_IN, (name, called))

    def test_methods(self):
        for name, node in self.nodes():
            if isinstance(node, ast.Call) and isinstance(node.func, ast.Attribute):
                self.assertIn(node.func.attr, OWN_METHODS, name)


if __name__ == "__main__":
    unittest.main()
