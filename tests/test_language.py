"""The rules of ../shared/LANGUAGE.md that can be seen on the package's files by simple means."""

import ast
import builtins
import pathlib
import re
import unittest

PACKAGE = pathlib.Path(__file__).resolve().parent.parent / "deedslog"

BUILT_IN = set("""len range enumerate zip min max sum abs sorted reversed int str bool list tuple dict set frozenset
    isinstance ord repr any all divmod Exception ValueError TypeError KeyError IndexError LookupError ZeroDivisionError
    ArithmeticError OverflowError RuntimeError NotImplementedError AttributeError StopIteration""".split())

METHODS = set("""append clear copy count endswith extend find get index insert isalnum isalpha isdigit islower isspace
    isupper items join keys ljust lower lstrip partition pop remove replace reverse rfind rjust rpartition rsplit rstrip
    setdefault split splitlines startswith strip update upper values zfill bit_length""".split())

NO_WORDS = re.compile(r"\b(type|typing|typing_extensions|enum|Enum|IntEnum|StrEnum|Flag|IntFlag|Generic|Protocol|ABC"
                      r"|ABCMeta|namedtuple|NamedTuple|TypedDict|TYPE_CHECKING|abstractmethod)\b"
                      r"|dataclass|overload|contextmanager")

STATEMENTS = (ast.FunctionDef, ast.ClassDef, ast.ImportFrom, ast.Assign, ast.AugAssign, ast.If, ast.While, ast.For,
              ast.Return, ast.Break, ast.Continue, ast.Pass, ast.Raise, ast.Try, ast.Expr)

NO_EXPRESSIONS = (ast.SetComp, ast.DictComp, ast.GeneratorExp, ast.NamedExpr, ast.Starred, ast.Div, ast.MatMult,
                  ast.Yield, ast.YieldFrom, ast.Await)

SPECIAL = ("__init__", "__eq__", "__repr__", "__str__", "__len__")


class LanguageTest(unittest.TestCase):
    def setUp(self):
        self.files = {path.name: path.read_bytes() for path in sorted(PACKAGE.glob("*.py"))}
        self.trees = {name: ast.parse(text) for name, text in self.files.items()}
        self.nodes = [(name, node) for name, tree in self.trees.items() for node in ast.walk(tree)]

    def defs(self):
        return [(name, node) for name, node in self.nodes if isinstance(node, ast.FunctionDef)]

    def test_files_and_signs(self):
        for path in PACKAGE.iterdir():
            if path.name != "__pycache__":
                self.assertRegex(path.name, r"^([a-z][a-z0-9_]*|__init__)\.py$")
        for name, text in self.files.items():
            self.assertTrue(all(sign == 10 or 32 <= sign <= 126 for sign in text), name)
            lines = text.decode().splitlines()
            self.assertLessEqual(len(lines), 400, name)
            self.assertLessEqual(max(len(line) for line in lines), 120, name)
            self.assertIsNone(NO_WORDS.search(text.decode()), name)

    def test_functions(self):
        for name, node in self.defs():
            self.assertLessEqual(node.end_lineno - node.lineno + 1, 40, (name, node.name))
            self.assertEqual(node.decorator_list, [])
            given = node.args
            self.assertFalse(given.vararg or given.kwarg or given.kwonlyargs or given.posonlyargs, (name, node.name))

    def test_statements(self):
        for name, node in self.nodes:
            if isinstance(node, ast.stmt):
                self.assertIsInstance(node, STATEMENTS, (name, node.lineno))
            if isinstance(node, (ast.For, ast.While)):
                self.assertEqual(node.orelse, [], (name, node.lineno))
            if isinstance(node, ast.Assign):
                self.assertEqual(len(node.targets), 1, (name, node.lineno))
            if isinstance(node, ast.Try):
                self.assertEqual(node.finalbody, [], (name, node.lineno))
            self.assertNotIsInstance(node, NO_EXPRESSIONS, name)

    def test_values_stand_for_themselves_only_as_docstrings_of_files(self):
        for name, tree in self.trees.items():
            docstring = tree.body[0]
            for node in ast.walk(tree):
                if isinstance(node, ast.Expr) and node is not docstring:
                    self.assertIsInstance(node.value, ast.Call, (name, node.lineno))

    def test_imports(self):
        for name, node in self.nodes:
            if isinstance(node, ast.ImportFrom):
                self.assertEqual(node.level, 0)
                file_name = node.module.removeprefix("deedslog.") + ".py"
                bound = [part.name if isinstance(part, (ast.FunctionDef, ast.ClassDef)) else part.targets[0].id
                         for part in self.trees[file_name].body
                         if isinstance(part, (ast.FunctionDef, ast.ClassDef, ast.Assign))]
                for alias in node.names:
                    self.assertIn(alias.name, bound, name)

    def test_names(self):
        own = {node.name for name, node in self.defs()}
        for name, node in self.nodes:
            if isinstance(node, ast.Name) and hasattr(builtins, node.id):
                self.assertIn(node.id, BUILT_IN, (name, node.lineno))
                self.assertIsInstance(node.ctx, ast.Load, (name, node.lineno))
            if isinstance(node, ast.Name):
                self.assertFalse(node.id.startswith("_"), (name, node.lineno))
            if isinstance(node, ast.arg):
                self.assertFalse(hasattr(builtins, node.arg) or node.arg.startswith("_"), (name, node.lineno))
            if isinstance(node, ast.Attribute):
                self.assertFalse(node.attr.startswith("_"), (name, node.lineno))
            if isinstance(node, ast.Call) and isinstance(node.func, ast.Attribute):
                self.assertIn(node.func.attr, METHODS | own, (name, node.lineno))
        for name in own:
            self.assertTrue(name in SPECIAL or not name.startswith("_"), name)

    def test_no_local_is_called_like_an_import_or_a_class(self):
        for name, tree in self.trees.items():
            taken = {alias.asname or alias.name for part in tree.body if isinstance(part, ast.ImportFrom)
                     for alias in part.names}
            taken |= {part.name for part in tree.body if isinstance(part, ast.ClassDef)}
            for part in ast.walk(tree):
                if isinstance(part, ast.Name) and isinstance(part.ctx, ast.Store):
                    self.assertNotIn(part.id, taken, (name, part.lineno))
                if isinstance(part, ast.arg):
                    self.assertNotIn(part.arg, taken, (name, part.lineno))

    def test_no_two_files_draw_from_one_another(self):
        drawn = {name: {node.module.removeprefix("deedslog.") + ".py" for node in tree.body
                        if isinstance(node, ast.ImportFrom)} for name, tree in self.trees.items()}
        while drawn:
            free = [name for name in drawn if not drawn[name] & set(drawn)]
            self.assertTrue(free, drawn)
            for name in free:
                drawn.pop(name)

    def test_classes(self):
        methods = set()
        values = set()
        for name, node in self.nodes:
            if isinstance(node, ast.ClassDef):
                self.assertTrue(all(isinstance(part, ast.FunctionDef) for part in node.body), (name, node.name))
                methods |= {part.name for part in node.body}
            if isinstance(node, ast.Attribute) and isinstance(node.ctx, ast.Store):
                values.add(node.attr)
        self.assertEqual(methods & values, set())


if __name__ == "__main__":
    unittest.main()
