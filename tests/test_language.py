"""The rules of the language subset that can be checked line by line."""

import ast
import builtins
import pathlib
import re
import unittest

PACKAGE = pathlib.Path(__file__).resolve().parent.parent / "groupcaps"
FILES = sorted(path for path in PACKAGE.rglob("*") if path.is_file() and "__pycache__" not in path.parts)
BUILTINS = (
    "len range enumerate zip min max sum abs sorted reversed int str bool bytes list tuple dict set isinstance ord "
    "repr any all divmod ValueError KeyError property staticmethod classmethod super"
).split()
BARRED = "type typing enum Enum Generic Protocol ABC namedtuple abstractmethod dataclass overload contextmanager".split()
SPECIAL = ("__init__", "__eq__", "__str__", "__len__")
METHODS = (
    "append clear copy count endswith extend find get index insert isalnum isalpha isdigit islower isspace isupper "
    "items join keys ljust lower lstrip partition pop remove replace reverse rfind rjust rpartition rsplit rstrip "
    "setdefault split splitlines startswith strip update upper values zfill bit_length add discard sort isascii"
).split()


class LanguageTest(unittest.TestCase):
    def nodes(self, kinds):
        for path in FILES:
            for node in ast.walk(ast.parse(path.read_text("utf-8"))):
                if isinstance(node, kinds):
                    yield path.name, node

    def test_files(self):
        self.assertTrue(FILES)
        for path in FILES:
            self.assertRegex(path.name, r"\A[a-z0-9_]+\.py\Z")

    def test_characters_and_sizes(self):
        for path in FILES:
            text = path.read_text("utf-8")
            self.assertRegex(text, r"\A[ -~\n]*\Z")
            self.assertLess(len(text.splitlines()), 400)
            self.assertLessEqual(max(len(line) for line in text.splitlines()), 120)
            for word in BARRED:
                self.assertIsNone(re.search(rf"\b{word}\b", text), (path.name, word))

    def test_functions_are_small(self):
        for name, node in self.nodes(ast.FunctionDef):
            self.assertLessEqual(node.end_lineno - node.lineno + 1, 40, (name, node.name))

    def test_imports(self):
        for name, node in self.nodes((ast.Import, ast.ImportFrom)):
            self.assertIsInstance(node, ast.ImportFrom, name)
            self.assertEqual(node.level, 0)
            self.assertTrue(node.module.startswith("groupcaps."), name)
            self.assertTrue(all(alias.asname is None and alias.name != "*" for alias in node.names))

    def test_imports_name_the_file_that_defines(self):
        for name, node in self.nodes(ast.ImportFrom):
            path = PACKAGE.parent.joinpath(*node.module.split(".")).with_suffix(".py")
            defined = [item.name for item in ast.parse(path.read_text("utf-8")).body if hasattr(item, "name")]
            defined.extend(re.findall(r"^([A-Z_]+) = ", path.read_text("utf-8"), re.MULTILINE))
            for alias in node.names:
                self.assertIn(alias.name, defined, name)

    def test_no_local_name_of_an_import(self):
        for path in FILES:
            tree = list(ast.walk(ast.parse(path.read_text("utf-8"))))
            barred = [alias.name for node in tree if isinstance(node, ast.ImportFrom) for alias in node.names]
            barred.extend(node.name for node in tree if isinstance(node, ast.ClassDef))
            stored = [node.id for node in tree if isinstance(node, ast.Name) and isinstance(node.ctx, ast.Store)]
            stored.extend(node.arg for node in tree if isinstance(node, ast.arg))
            self.assertEqual(set(stored) & set(barred), set(), path.name)

    def test_generators(self):
        functions = [node for name, node in self.nodes(ast.FunctionDef)]
        for function in functions:
            yields = [node for node in ast.walk(function) if isinstance(node, (ast.Yield, ast.YieldFrom))]
            if yields:
                self.assertEqual([other.name for other in functions].count(function.name), 1)
                statements = [node.value for node in ast.walk(function) if isinstance(node, ast.Expr)]
                self.assertTrue(all(node in statements for node in yields), function.name)
                for node in ast.walk(function):
                    self.assertNotIsInstance(node, (ast.Try, ast.With))
                    self.assertTrue(not isinstance(node, ast.Return) or node.value is None)

    def test_handlers_catch_own_errors(self):
        own = [node.name for name, node in self.nodes(ast.ClassDef)]
        for name, node in self.nodes(ast.ExceptHandler):
            for kind in node.type.elts if isinstance(node.type, ast.Tuple) else [node.type]:
                self.assertIsInstance(kind, ast.Name, name)
                self.assertIn(kind.id, own, name)

    def test_kinds_of_nodes(self):
        barred = (ast.Global, ast.AsyncFunctionDef, ast.AsyncFor, ast.AsyncWith, ast.Await, ast.Div, ast.Set)
        for name, node in self.nodes(barred):
            self.fail((name, node.lineno))

    def test_strings(self):
        for name, node in self.nodes(ast.Constant):
            self.assertNotIsInstance(node.value, (float, complex), name)
            if isinstance(node.value, str):
                self.assertNotIn("%", node.value, name)

    def test_names(self):
        stored = [(name, node.id) for name, node in self.nodes(ast.Name) if isinstance(node.ctx, ast.Store)]
        stored.extend((name, node.arg) for name, node in self.nodes(ast.arg))
        stored.extend((name, node.name) for name, node in self.nodes((ast.FunctionDef, ast.ClassDef)))
        for name, word in stored:
            if word not in SPECIAL:
                self.assertFalse(word.startswith("_"), (name, word))
                self.assertNotIn(word, dir(builtins), name)

    def test_builtins(self):
        for name, node in self.nodes(ast.Name):
            if node.id in dir(builtins):
                self.assertIn(node.id, BUILTINS, (name, node.lineno))

    def test_methods(self):
        own = [node.name for name, node in self.nodes(ast.FunctionDef)]
        for name, node in self.nodes(ast.Call):
            if isinstance(node.func, ast.Attribute):
                self.assertIn(node.func.attr, METHODS + own, (name, node.lineno))

    def test_no_generator_expressions(self):
        # Where a class has __eq__, any, all, sum and the like take lists.
        for name, node in self.nodes(ast.GeneratorExp):
            self.fail((name, node.lineno))

    def test_decorators(self):
        for name, node in self.nodes(ast.FunctionDef):
            for decorator in node.decorator_list:
                text = ast.unparse(decorator)
                self.assertIn(text, ("property", "staticmethod", "classmethod", f"{node.name}.setter"), name)
        for name, node in self.nodes(ast.ClassDef):
            self.assertEqual(node.decorator_list, [], name)

    def test_class_values_are_written_out(self):
        for name, node in self.nodes(ast.ClassDef):
            for statement in node.body:
                if isinstance(statement, ast.Assign):
                    self.assertIsInstance(statement.value, ast.Constant, (name, node.name))

    def test_special_methods_assign_nothing(self):
        for name, node in self.nodes(ast.FunctionDef):
            if node.name in SPECIAL[1:]:
                kinds = [type(statement) for statement in node.body]
                self.assertEqual(kinds, [ast.Return], (name, node.name))

    def test_no_name_is_a_method_and_an_attribute(self):
        methods = [item.name for name, node in self.nodes(ast.ClassDef) for item in node.body if hasattr(item, "name")]
        stored = [node for name, node in self.nodes(ast.Attribute) if isinstance(node.ctx, ast.Store)]
        attributes = [node.attr for node in stored if node.attr != "plan"]
        self.assertEqual(set(methods) & set(attributes), set())

    def test_no_state_at_module_level(self):
        for path in FILES:
            for node in ast.parse(path.read_text("utf-8")).body:
                kinds = (ast.Expr, ast.ImportFrom, ast.FunctionDef, ast.ClassDef, ast.Assign)
                self.assertIsInstance(node, kinds, path.name)


if __name__ == "__main__":
    unittest.main()
