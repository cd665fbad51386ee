"""What of ../shared/LANGUAGE.md can be seen by plain reading, so that a slip shows here first."""

import ast
import builtins
import pathlib
import re
import unittest

PACKAGE = pathlib.Path(__file__).resolve().parent.parent / "figuredeeds"
BUILTINS = set(
    "len range enumerate zip min max sum abs sorted reversed int str bool bytes list tuple dict set frozenset "
    "isinstance ord repr any all divmod iter next super property staticmethod classmethod Exception ValueError "
    "TypeError KeyError IndexError LookupError ZeroDivisionError ArithmeticError OverflowError RuntimeError "
    "NotImplementedError AttributeError StopIteration NotImplemented".split())
BARRED = re.compile(
    r"\b(type|typing|typing_extensions|enum|Enum|IntEnum|StrEnum|Flag|IntFlag|Generic|Protocol|ABC|ABCMeta|namedtuple|"
    r"NamedTuple|TypedDict|TYPE_CHECKING|abstractmethod)\b|dataclass|overload|contextmanager")
DOUBLE = set("__init__ __eq__ __repr__ __str__ __len__ __iter__".split())


def files():
    return [path for path in sorted(PACKAGE.rglob("*")) if "__pycache__" not in path.parts]


def trees():
    return [(path.name, ast.parse(path.read_text())) for path in files()]


def nodes(kind):
    return [(name, node) for name, tree in trees() for node in ast.walk(tree) if isinstance(node, kind)]


class Language(unittest.TestCase):
    def test_files_and_characters(self):
        for path in files():
            with self.subTest(path.name):
                self.assertRegex(path.name, r"^[a-z0-9_]+\.py$")
                text = path.read_text(encoding="utf-8")
                self.assertRegex(text, r"\A[ -~\n]*\Z")
                self.assertIsNone(BARRED.search(text))
                lines = text.split("\n")
                self.assertLessEqual(len(lines), 399)
                self.assertLessEqual(max(len(line) for line in lines), 120)

    def test_short_functions(self):
        for name, node in nodes(ast.FunctionDef):
            with self.subTest(f"{name} {node.name}"):
                self.assertLessEqual(node.end_lineno - node.lineno + 1, 40)

    def test_imports(self):
        self.assertEqual(nodes(ast.Import), [])
        for name, node in nodes(ast.ImportFrom):
            with self.subTest(name):
                self.assertEqual(node.level, 0)
                self.assertTrue(node.module.startswith("figuredeeds."))
                defined = (PACKAGE / (node.module.split(".")[1] + ".py")).read_text()
                for alias in node.names:
                    self.assertRegex(defined, rf"(?m)^((def|class) {alias.name}\b|{alias.name} =)")

    def test_builtins(self):
        for name, node in nodes(ast.Name):
            if node.id in dir(builtins):
                with self.subTest(f"{name} {node.lineno}"):
                    self.assertIn(node.id, BUILTINS)
                    self.assertIsInstance(node.ctx, ast.Load)

    def test_names(self):
        named = [node.id for _, node in nodes(ast.Name)] + [node.arg for _, node in nodes(ast.arg)]
        named += [node.attr for _, node in nodes(ast.Attribute)]
        named += [node.name for _, node in nodes((ast.FunctionDef, ast.ClassDef))]
        for name in set(named) - DOUBLE:
            self.assertRegex(name, r"^[A-Za-z][A-Za-z0-9_]*$")
            self.assertNotIn(name, {"register", "mro", "elements", "open", "input", "law", "format", "args"})
        for node in [node for _, node in nodes((ast.FunctionDef, ast.arg))]:
            self.assertNotIn(node.name if isinstance(node, ast.FunctionDef) else node.arg, dir(builtins))

    def test_no_local_name_is_that_of_an_import_or_class(self):
        for file, tree in trees():
            within = list(ast.walk(tree))
            taken = {alias.name for node in within if isinstance(node, ast.ImportFrom) for alias in node.names}
            taken |= {node.name for node in within if isinstance(node, ast.ClassDef)}
            local = {node.arg for node in within if isinstance(node, ast.arg)}
            local |= {node.id for node in within if isinstance(node, ast.Name) and isinstance(node.ctx, ast.Store)}
            self.assertEqual(local & taken, set(), file)

    def test_each_name_is_bound_once_at_module_level(self):
        for file, tree in trees():
            bound = [node.name for node in tree.body if isinstance(node, (ast.FunctionDef, ast.ClassDef))]
            bound += [target.id for node in tree.body if isinstance(node, ast.Assign) for target in node.targets]
            bound += [alias.name for node in tree.body if isinstance(node, ast.ImportFrom) for alias in node.names]
            self.assertEqual(sorted(bound), sorted(set(bound)), file)

    def test_each_attribute_that_is_read_is_assigned_or_a_method(self):
        stored = {node.attr for _, node in nodes(ast.Attribute) if isinstance(node.ctx, ast.Store)}
        known = stored | {node.name for _, node in nodes(ast.FunctionDef)}
        builtin = {name for kind in (str, int, list, dict, tuple) for name in dir(kind)}
        read = {node.attr for _, node in nodes(ast.Attribute)}
        self.assertEqual(read - known - builtin, set())

    def test_no_name_is_a_method_and_an_attribute(self):
        methods = {part.name for _, node in nodes(ast.ClassDef) for part in node.body
                   if isinstance(part, ast.FunctionDef)}
        stored = {node.attr for _, node in nodes(ast.Attribute) if isinstance(node.ctx, ast.Store)}
        self.assertEqual(methods & stored, set())

    def test_statements_and_expressions(self):
        barred = (ast.Global, ast.AsyncFunctionDef, ast.Await, ast.GeneratorExp, ast.Div, ast.SetComp)
        self.assertEqual([(name, node.lineno) for name, node in nodes(barred) if hasattr(node, "lineno")], [])
        self.assertEqual(nodes(ast.Div), [])
        for name, node in nodes(ast.Constant):
            self.assertNotIsInstance(node.value, (float, complex))
            if isinstance(node.value, str):
                self.assertNotIn("%", node.value)
        for name, node in nodes(ast.Compare):
            for sign, right in zip(node.ops, node.comparators):
                if isinstance(sign, (ast.Is, ast.IsNot)):
                    self.assertIn(getattr(right, "value", 0), (None, True, False))

    def test_module_level(self):
        kinds = (ast.Expr, ast.ImportFrom, ast.FunctionDef, ast.ClassDef, ast.Assign)
        for name, tree in trees():
            for node in tree.body:
                self.assertIsInstance(node, kinds, name)


if __name__ == "__main__":
    unittest.main()
