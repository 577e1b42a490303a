"""The rules of the language that can be looked up in the files of the package one by one."""

import ast
import pathlib
import symtable
import unittest

FOLDER = pathlib.Path(__file__).resolve().parent.parent / "newestrow"
FILES = sorted(path for path in FOLDER.rglob("*.py"))
BUILTINS = set(
    "len range enumerate zip min max sum abs sorted reversed int str bool bytes list tuple dict set frozenset isinstance "
    "ord repr any all divmod pow getattr hasattr setattr iter next map Exception ValueError TypeError KeyError IndexError "
    "LookupError ZeroDivisionError ArithmeticError OverflowError RuntimeError NotImplementedError AttributeError "
    "StopIteration NotImplemented".split()
)
DECORATORS = {"property", "staticmethod", "classmethod"}
LIBRARY = {"heapq", "math", "itertools", "collections"}
BARRED_NODES = (
    ast.Global, ast.AsyncFunctionDef, ast.AsyncFor, ast.AsyncWith, ast.Await, ast.Div, ast.MatMult, ast.Import,
    ast.MatchMapping,
)
WITH_LISTS = {"any", "all", "min", "max", "sum", "sorted"}
BARRED_NAMES = {"register", "mro", "elements", "open", "input", "law", "version_info", "with_traceback", "add_note",
                "type", "typing", "enum", "eval", "exec", "compile", "dir", "vars", "id", "globals", "locals"}


def trees():
    """Give the path, the text and the tree of each file."""
    for path in FILES:
        text = path.read_text("utf-8")
        yield path, text, ast.parse(text)


def global_names(table):
    """Return the names that a scope and those in it read as globals or builtins."""
    found = {symbol.get_name() for symbol in table.get_symbols() if symbol.is_global() and symbol.is_referenced()}
    return found.union(*[global_names(child) for child in table.get_children()])


class LanguageTest(unittest.TestCase):
    def test_there_are_only_python_files(self):
        self.assertIn("__init__.py", [path.name for path in FILES])
        for path in FOLDER.rglob("*"):
            if "__pycache__" not in path.parts:
                self.assertTrue(path.is_dir() or path.suffix == ".py", path)
                self.assertEqual(path.name, path.name.lower())

    def test_characters_and_sizes(self):
        for path, text, tree in trees():
            lines = text.split("\n")
            self.assertLessEqual(len(lines) - 1, 399, path)
            for at, line in enumerate(lines, start=1):
                self.assertLessEqual(len(line), 120, (path.name, at))
                self.assertTrue(all(" " <= letter <= "~" for letter in line), (path.name, at))
            for node in ast.walk(tree):
                if isinstance(node, ast.FunctionDef):
                    self.assertLessEqual(node.end_lineno - node.lineno + 1, 40, (path.name, node.name))

    def test_strings(self):
        for path, _, tree in trees():
            for node in ast.walk(tree):
                if isinstance(node, ast.Constant):
                    self.assertNotIsInstance(node.value, (float, complex), (path.name, node.lineno))
                    if isinstance(node.value, str):
                        self.assertNotIn("%", node.value, (path.name, node.lineno))

    def test_imports(self):
        for path, _, tree in trees():
            for at, node in enumerate(tree.body):
                if isinstance(node, ast.ImportFrom):
                    self.assertEqual(node.level, 0, path)
                    before = tree.body[:at]
                    self.assertTrue(all(isinstance(part, (ast.Expr, ast.ImportFrom)) for part in before), path)
                    if node.module.split(".")[0] in LIBRARY:
                        continue
                    source = FOLDER.parent.joinpath(*node.module.split(".")).with_suffix(".py")
                    bound = {getattr(part, "name", None) for part in ast.parse(source.read_text("utf-8")).body}
                    bound |= {part.targets[0].id for part in ast.parse(source.read_text("utf-8")).body
                              if isinstance(part, ast.Assign)}
                    for alias in node.names:
                        self.assertIn(alias.name, bound, (path.name, node.lineno))

    def test_statements_and_names(self):
        for path, text, tree in trees():
            for node in ast.walk(tree):
                self.assertNotIsInstance(node, BARRED_NODES, (path.name, getattr(node, "lineno", 0)))
                for field in ("id", "attr", "name", "arg"):
                    self.assertNotIn(getattr(node, field, None), BARRED_NAMES, (path.name, getattr(node, "lineno", 0)))
                if isinstance(node, ast.Call) and getattr(node.func, "id", "") in WITH_LISTS:
                    self.assertNotIsInstance(node.args[0], ast.GeneratorExp, (path.name, node.lineno))
            scopes = symtable.symtable(text, path.name, "exec")
            bound = {symbol.get_name() for symbol in scopes.get_symbols() if symbol.is_assigned() or symbol.is_imported()
                     or symbol.is_namespace()}
            self.assertLessEqual(global_names(scopes) - bound, BUILTINS | DECORATORS, path.name)
            self.assertFalse(bound & (BUILTINS | DECORATORS), path.name)

    def test_decorators(self):
        for path, _, tree in trees():
            methods = [part for node in ast.walk(tree) if isinstance(node, ast.ClassDef) for part in node.body
                       if isinstance(part, ast.FunctionDef)]
            used = [part for node in methods for part in node.decorator_list if getattr(part, "attr", "") != "setter"]
            self.assertLessEqual({getattr(part, "id", "") for part in used}, DECORATORS, path.name)
            for node in ast.walk(tree):
                if isinstance(node, ast.ClassDef) or isinstance(node, ast.FunctionDef) and node not in methods:
                    self.assertFalse(node.decorator_list, (path.name, node.name))
                if isinstance(node, ast.Name) and node.id in DECORATORS:
                    self.assertIn(node, used, (path.name, node.lineno))

    def test_generators_have_names_of_their_own(self):
        functions = [node for _, _, tree in trees() for node in ast.walk(tree) if isinstance(node, ast.FunctionDef)]
        names = [node.name for node in functions]
        for node in functions:
            if any(isinstance(part, (ast.Yield, ast.YieldFrom)) for part in ast.walk(node)):
                self.assertEqual(names.count(node.name), 1, node.name)

    def test_names_are_methods_or_attributes(self):
        methods, attributes = set(), set()
        for _, _, tree in trees():
            for node in ast.walk(tree):
                if isinstance(node, ast.ClassDef):
                    methods |= {part.name for part in node.body if isinstance(part, ast.FunctionDef)}
                if isinstance(node, ast.Attribute) and isinstance(node.ctx, ast.Store):
                    attributes.add(node.attr)
        self.assertFalse(methods & attributes)

    def test_no_variable_has_the_name_of_a_class_or_an_import(self):
        for path, _, tree in trees():
            taken = {part.name for part in tree.body if isinstance(part, ast.ClassDef)}
            taken |= {alias.name for part in tree.body if isinstance(part, ast.ImportFrom) for alias in part.names}
            for node in ast.walk(tree):
                if isinstance(node, ast.arg):
                    self.assertNotIn(node.arg, taken, path.name)
                if isinstance(node, ast.Name) and isinstance(node.ctx, ast.Store):
                    self.assertNotIn(node.id, taken, (path.name, node.lineno))

    def test_no_star_in_an_index(self):
        for path, _, tree in trees():
            for node in ast.walk(tree):
                if isinstance(node, ast.Subscript):
                    self.assertFalse([part for part in ast.walk(node.slice) if isinstance(part, ast.Starred)], (path.name, node.lineno))

    def test_what_len_returns(self):
        for path, _, tree in trees():
            for node in ast.walk(tree):
                if isinstance(node, ast.FunctionDef) and node.name == "__len__":
                    for part in ast.walk(node):
                        if isinstance(part, ast.Return):
                            self.assertEqual(part.value.func.id, "len", (path.name, part.lineno))


if __name__ == "__main__":
    unittest.main()
