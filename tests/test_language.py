"""Rules of LANGUAGE.md that a program can see: files, sizes, names and imports.

Passing here does not mean that a file keeps to all of the rules.
"""

import ast
import builtins
import re
import unittest
from pathlib import Path

PACKAGE = Path(__file__).resolve().parent.parent / "retryslots"
FILES = sorted(PACKAGE.rglob("*.py"))
ERRORS = """Exception ValueError TypeError KeyError IndexError LookupError ZeroDivisionError ArithmeticError
    OverflowError RuntimeError NotImplementedError AttributeError StopIteration NotImplemented"""
BUILTINS = f"""len range enumerate zip min max sum abs sorted reversed int str bool bytes list tuple dict set
    isinstance ord repr any all divmod pow iter next map getattr hasattr setattr {ERRORS}""".split()
METHODS = """append clear copy count endswith extend find get index insert isalnum isalpha isdigit islower isspace
    isupper items join keys ljust lower lstrip partition pop remove replace reverse rfind rjust rpartition rsplit
    rstrip setdefault split splitlines startswith strip update upper values zfill bit_length
    title capitalize swapcase casefold center expandtabs removeprefix removesuffix rindex isascii isdecimal
    isnumeric istitle isidentifier isprintable translate encode decode hex add discard sort format""".split()
DOUBLE = """__init__ __eq__ __repr__ __str__ __len__ __enter__ __exit__ __call__ __iter__
    __lt__ __le__ __gt__ __ge__ __ne__ __add__ __sub__ __mul__ __floordiv__ __mod__ __pow__ __and__ __or__ __xor__
    __neg__ __pos__ __invert__ __abs__ __bool__ __contains__ __getitem__ __setitem__""".split()
LIBRARY = {"heapq", "math", "itertools", "collections"}
GREEDY = {"any", "all", "min", "max", "sum", "sorted"}
FORBIDDEN = (
    ast.Global, ast.AsyncFunctionDef, ast.AsyncFor, ast.AsyncWith, ast.Await, ast.Import, ast.Div, ast.MatMult,
)


def nodes(kinds):
    """Return a list of tuples (file name, node) of the nodes of some kinds."""
    found = []
    for file in FILES:
        found += [(file.name, node) for node in ast.walk(ast.parse(file.read_text())) if isinstance(node, kinds)]
    return found


def bound_names(node):
    """Return the names that a statement at module level binds."""
    if isinstance(node, ast.ImportFrom):
        return [imported.name for imported in node.names]
    if isinstance(node, ast.Assign):
        return [target.id for target in node.targets]
    return [node.name] if isinstance(node, (ast.FunctionDef, ast.ClassDef)) else []


def module_names(tree):
    """Return the names that a file defines itself."""
    return {name for node in tree.body if not isinstance(node, ast.ImportFrom) for name in bound_names(node)}


def told(found):
    """Return where nodes stand."""
    return [f"{name}:{node.lineno}" for name, node in found]


class Files(unittest.TestCase):
    def test_names(self):
        self.assertIn(PACKAGE / "__init__.py", FILES)
        for path in PACKAGE.rglob("*"):
            if "__pycache__" not in path.parts:
                self.assertRegex(path.name, r"^([a-z0-9_]+\.py|[a-z0-9_]+)$")
                self.assertNotRegex(path.name, r"^(law_|test)")

    def test_characters(self):
        for file in FILES:
            self.assertEqual(re.findall(r"[^ -~\n]", file.read_text()), [], file.name)

    def test_sizes(self):
        for file in FILES:
            lines = file.read_text().splitlines()
            self.assertLessEqual(len(lines), 399, file.name)
            self.assertEqual([line for line in lines if len(line) > 120], [], file.name)
        functions = nodes(ast.FunctionDef)
        self.assertEqual(told([found for found in functions if found[1].end_lineno - found[1].lineno > 39]), [])


class Statements(unittest.TestCase):
    def test_imports(self):
        for name, node in nodes(ast.ImportFrom):
            parts = (node.module or "").split(".")
            self.assertEqual(node.level, 0, name)
            self.assertTrue(len(parts) > 1 and parts[0] == "retryslots" or parts[0] in LIBRARY, (name, node.module))
            self.assertNotIn("*", [imported.name for imported in node.names], name)

    def test_imports_name_the_defining_file(self):
        defined = {file.stem: module_names(ast.parse(file.read_text())) for file in FILES}
        for name, node in nodes(ast.ImportFrom):
            parts = node.module.split(".")
            if parts[0] == "retryslots":
                for imported in node.names:
                    self.assertIsNone(imported.asname, name)
                    self.assertIn(imported.name, defined[parts[1]], name)

    def test_no_files_import_from_each_other(self):
        needed = {file.stem: set() for file in FILES}
        for name, node in nodes(ast.ImportFrom):
            if node.module.startswith("retryslots."):
                needed[name.removesuffix(".py")].add(node.module.partition(".")[2])
        while needed:
            free = [file for file, others in needed.items() if not others & set(needed)]
            self.assertTrue(free, needed)
            for file in free:
                del needed[file]

    def test_imports_are_used(self):
        for file in FILES:
            tree = ast.parse(file.read_text())
            read = {node.id for node in ast.walk(tree) if isinstance(node, ast.Name)}
            for node in ast.walk(tree):
                if isinstance(node, ast.ImportFrom):
                    self.assertEqual({imported.name for imported in node.names} - read, set(), file.name)

    def test_module_level(self):
        for file in FILES:
            tree = ast.parse(file.read_text())
            for node in tree.body[1:]:
                self.assertIsInstance(node, (ast.ImportFrom, ast.FunctionDef, ast.ClassDef, ast.Assign), file.name)
            names = [name for node in tree.body for name in bound_names(node)]
            self.assertEqual(sorted(names), sorted(set(names)), file.name)

    def test_forbidden_statements_and_operators(self):
        self.assertEqual([(name, node.__class__.__name__) for name, node in nodes(FORBIDDEN)], [])

    def test_decorators_and_bases(self):
        allowed = {"property", "staticmethod", "classmethod"}
        for name, node in nodes(ast.FunctionDef):
            for decorator in node.decorator_list:
                self.assertTrue(isinstance(decorator, ast.Attribute) or decorator.id in allowed, name)
        self.assertEqual(told([found for found in nodes(ast.ClassDef) if found[1].decorator_list]), [])


class Names(unittest.TestCase):
    def test_builtins(self):
        for name, node in nodes(ast.Name):
            if hasattr(builtins, node.id):
                self.assertIn(node.id, BUILTINS, f"{name}:{node.lineno}")
                self.assertIsInstance(node.ctx, ast.Load, f"{name}:{node.lineno}")
        for name, node in nodes(ast.arg):
            self.assertFalse(hasattr(builtins, node.arg), f"{name}:{node.lineno}")

    def test_local_names(self):
        for file in FILES:
            tree = ast.parse(file.read_text())
            taken = {name for node in tree.body if isinstance(node, (ast.ImportFrom, ast.ClassDef))
                     for name in bound_names(node)}
            stored = {node.id for node in ast.walk(tree) if isinstance(node, ast.Name)
                      and not isinstance(node.ctx, ast.Load)}
            stored |= {node.arg for node in ast.walk(tree) if isinstance(node, ast.arg)}
            self.assertEqual(stored & taken, set(), file.name)

    def test_methods(self):
        own = {node.name for name, node in nodes(ast.FunctionDef)}
        for name, node in nodes(ast.Call):
            if isinstance(node.func, ast.Attribute):
                self.assertIn(node.func.attr, own | set(METHODS) | {"__init__"}, f"{name}:{node.lineno}")

    def test_double_underscores(self):
        for name, node in nodes(ast.FunctionDef):
            if node.name.startswith("__"):
                self.assertIn(node.name, DOUBLE, f"{name}:{node.lineno}")

    def test_classes_begin_with_a_letter(self):
        classes = nodes(ast.ClassDef)
        self.assertGreater(len(classes), 10)
        self.assertEqual([f"{name}: {node.name}" for name, node in classes if not node.name[0].isalpha()], [])

    def test_private_names(self):
        bound = [(name, node.name) for name, node in nodes((ast.FunctionDef, ast.ClassDef))]
        bound += [(name, node.id) for name, node in nodes(ast.Name)]
        bound += [(name, node.arg) for name, node in nodes(ast.arg)]
        bound += [(name, node.attr) for name, node in nodes(ast.Attribute)]
        for name, word in bound:
            if word != "_" and word not in DOUBLE:
                self.assertRegex(word, r"^_?[A-Za-z][A-Za-z0-9_]*$", name)

    def test_generator_expressions_beside_equality(self):
        for name, node in nodes(ast.Call):
            if isinstance(node.func, ast.Name) and node.func.id in GREEDY:
                for argument in node.args:
                    self.assertNotIsInstance(argument, ast.GeneratorExp, f"{name}:{node.lineno}")

    def test_no_floats(self):
        self.assertEqual(told([found for found in nodes(ast.Constant) if isinstance(found[1].value, float)]), [])


if __name__ == "__main__":
    unittest.main()
