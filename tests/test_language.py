"""The interface as DOC.md lists it, and what ../shared/LANGUAGE.md lets a file hold."""

import ast
import builtins
import importlib
import inspect
import pathlib
import unittest

import asifcopied

PACKAGE = pathlib.Path(asifcopied.__file__).parent
MODULES = ["errors", "checks", "heaps", "changes", "lines", "growth", "fats", "labels", "moves", "cells"]
INTERFACE = """
checks: is_heap(value, wide)
heaps: pointed(heap, wide), reached(heap, wide), seen(heap, wide), look_alike(one, other, wide)
changes: after(heap, deed, wide), are_parents(value), is_story(value, wide), parents_of(story, wide), heaps_of(story, wide)
changes: heap_at(story, wide, version)
lines: line_of(parents), place(parents, version), is_ahead(parents, one, other), next_in_line(parents, version)
lines: comes_of(parents, one, other), stretch(parents, version), meet(parents, one, other), is_line(value), tree_of(line)
fats: read_entries(parents, entries, version), least_entries(parents, made, values)
fats: is_right(parents, made, values, entries), Fat(wide), dear_story(many)
labels: most_in(level), Labels(bits), potential(labels), ledger(bits, puts), is_ledger(bits, puts, value)
moves: is_state(value, many), price_between(many, state, place, later), gap_behind(many, state, place)
moves: tight_place(many, state, left), halfway(many, state, place), least_price(many, items), keeping(many, items)
moves: forcing(many, items), is_keeping(many, items, price, value), is_forcing(many, items, price, value)
cells: Cells(wide, room, most)
"""
METHODS = {
    "fats.Fat": "deed(version, changes), heap(version), look(version), many(version), read(version, record, field), "
                "parents(), line(), story(), name(version, record), number(version, name), entries(name, field), count()",
    "labels.Labels": "put(item), label(item), is_ahead(one, other), behind(item), row(), moved(), copy(), __len__(), "
                     "__eq__(other)",
    "cells.Cells": "deed(version, changes), many(version), read(version, record, field), heap(version), root(version), "
                   "step(version, cell, field), walk(version, way), shown(version), line(), parents(), cells(), splits(), "
                   "things(cell), pointing(cell), split(cell, version)"}
LET = """len range enumerate zip min max sum abs sorted reversed int str bool list tuple dict set isinstance ord repr any all
divmod ValueError""".split()
WORDS = """append clear copy count endswith extend find get index insert isalnum isalpha isdigit islower isspace isupper
items join keys ljust lower lstrip partition pop remove replace reverse rfind rjust rpartition rsplit rstrip setdefault
split splitlines startswith strip update upper values zfill bit_length""".split()
BARRED = """mro elements open input law version_info with_traceback add_note register type typing enum Enum Flag Generic
Protocol ABC namedtuple dataclass overload contextmanager eval exec compile id dir vars globals locals getattr setattr
hasattr super map chr format hash next iter filter print round float object""".split()
PLAIN = (ast.FunctionDef, ast.ClassDef, ast.ImportFrom, ast.Assign, ast.Expr)
BARRED_NODES = (ast.GeneratorExp, ast.SetComp, ast.Set, ast.AsyncFunctionDef, ast.Global, ast.Nonlocal, ast.Div, ast.Yield,
                ast.YieldFrom, ast.Import, ast.With, ast.Starred, ast.NamedExpr, ast.AnnAssign, ast.JoinedStr, ast.Pow)


def listed(text):
    """The names and the parameters of a list such as "f(a, b), g()"."""
    told = []
    for part in text.replace("), ", ")\n").split("\n"):
        name, params = part.rstrip(")").split("(")
        told.append((name, [param for param in params.split(", ") if param]))
    return told


def trees():
    return [(path, ast.parse(path.read_text())) for path in sorted(PACKAGE.glob("*.py"))]


def own_methods():
    told = set()
    for _, tree in trees():
        for node in ast.walk(tree):
            if isinstance(node, ast.ClassDef):
                told |= {part.name for part in node.body if isinstance(part, ast.FunctionDef)}
    return told


class TestInterface(unittest.TestCase):
    def test_functions_and_classes(self):
        for line in INTERFACE.strip().split("\n"):
            word, text = line.split(": ")
            module = importlib.import_module("asifcopied." + word)
            for name, params in listed(text):
                told = getattr(module, name)
                self.assertEqual(told.__module__, module.__name__)
                self.assertEqual(list(inspect.signature(told).parameters), params, name)

    def test_methods(self):
        for path, text in METHODS.items():
            word, name = path.split(".")
            told = getattr(importlib.import_module("asifcopied." + word), name)
            for method, params in listed(text):
                self.assertIn(method, vars(told))
                self.assertEqual(list(inspect.signature(vars(told)[method]).parameters), ["self"] + params, method)

    def test_init_defines_nothing(self):
        tree = ast.parse((PACKAGE / "__init__.py").read_text())
        self.assertTrue(all(isinstance(node, ast.Expr) for node in tree.body))


class TestLanguage(unittest.TestCase):
    def test_files(self):
        for path in PACKAGE.iterdir():
            if path.name == "__pycache__":
                continue
            self.assertEqual(path.suffix, ".py")
            text = path.read_text()
            self.assertTrue(all(sign == "\n" or " " <= sign <= "~" for sign in text), path)
            self.assertLessEqual(text.count("\n"), 399)
            self.assertLessEqual(max(map(len, text.split("\n"))), 120)
            self.assertTrue(text.endswith("\n"))

    def test_functions(self):
        for path, tree in trees():
            for node in ast.walk(tree):
                if isinstance(node, (ast.FunctionDef, ast.ClassDef)):
                    self.assertEqual(node.decorator_list, [])
                if isinstance(node, ast.FunctionDef):
                    self.assertLessEqual(node.end_lineno - node.lineno + 1, 40, (path, node.name))

    def test_module_level(self):
        for path, tree in trees():
            self.assertTrue(ast.get_docstring(tree), path)
            for at, node in enumerate(tree.body):
                self.assertIsInstance(node, PLAIN)
                if isinstance(node, ast.Assign):
                    self.assertIsInstance(node.value, ast.Constant)
                    self.assertEqual([type(target) for target in node.targets], [ast.Name])
                self.assertTrue(at == 0 or not isinstance(node, ast.Expr))

    def test_imports(self):
        for path, tree in trees():
            for node in ast.walk(tree):
                if not isinstance(node, ast.ImportFrom):
                    continue
                package, word = node.module.split(".")
                self.assertEqual((package, node.level), ("asifcopied", 0))
                self.assertLess(MODULES.index(word), MODULES.index(path.stem))
                told = importlib.import_module(node.module)
                for alias in node.names:
                    self.assertIsNone(alias.asname)
                    worth = getattr(told, alias.name)
                    self.assertEqual(getattr(worth, "__module__", told.__name__), told.__name__)

    def test_no_unused_import(self):
        for path, tree in trees():
            read = {node.id for node in ast.walk(tree) if isinstance(node, ast.Name)}
            for node in tree.body:
                for alias in getattr(node, "names", []):
                    self.assertIn(alias.name, read, path)

    def test_nodes(self):
        for path, tree in trees():
            for node in ast.walk(tree):
                self.assertNotIsInstance(node, BARRED_NODES, (path, getattr(node, "lineno", 0)))
                if isinstance(node, ast.Constant):
                    self.assertNotIsInstance(node.value, (float, complex, bytes))
                    self.assertNotIn("%", str(node.value))
                if isinstance(node, ast.ExceptHandler):
                    self.assertIsInstance(node.type, ast.Name)
                    self.assertIn(node.type.id, dir(importlib.import_module("asifcopied.errors")))
                if isinstance(node, ast.Raise):
                    self.assertIsInstance(node.exc, ast.Call)
                if isinstance(node, ast.Compare) and isinstance(node.ops[0], (ast.Is, ast.IsNot)):
                    self.assertIsInstance(node.comparators[0], ast.Constant)

    def test_names(self):
        for path, tree in trees():
            for node in ast.walk(tree):
                names = []
                if isinstance(node, ast.Name) and isinstance(node.ctx, ast.Store):
                    names = [node.id]
                elif isinstance(node, ast.FunctionDef):
                    names = [node.name] + [arg.arg for arg in node.args.args]
                elif isinstance(node, ast.Lambda):
                    names = [arg.arg for arg in node.args.args]
                for name in names:
                    if name in ("__init__", "__len__", "__eq__"):
                        continue
                    self.assertFalse(name.startswith("__"), (path, name))
                    self.assertNotIn(name, BARRED)
                    self.assertFalse(hasattr(builtins, name), (path, name))

    def test_builtins_and_methods(self):
        own = own_methods()
        for path, tree in trees():
            for node in ast.walk(tree):
                if isinstance(node, ast.Name) and isinstance(node.ctx, ast.Load) and hasattr(builtins, node.id):
                    self.assertIn(node.id, LET, (path, node.lineno))
                if isinstance(node, ast.Call) and isinstance(node.func, ast.Attribute):
                    self.assertIn(node.func.attr, own | set(WORDS), (path, node.lineno))
                if isinstance(node, ast.Attribute):
                    self.assertNotIn(node.attr, BARRED)

    def test_attributes(self):
        """No name is a method and an attribute of one class; sets are stored nowhere in objects."""
        for path, tree in trees():
            for told in ast.walk(tree):
                if not isinstance(told, ast.ClassDef):
                    continue
                methods = {node.name for node in told.body if isinstance(node, ast.FunctionDef)}
                attributes = {node.attr for node in ast.walk(told)
                              if isinstance(node, ast.Attribute) and isinstance(node.ctx, ast.Store)}
                self.assertEqual(methods & attributes, set(), path)
                self.assertEqual(attributes & {"items", "keys", "values", "args", "sort", "format"}, set())


if __name__ == "__main__":
    unittest.main()
