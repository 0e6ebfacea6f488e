"""The interface as DOC.md lists it, and what ../shared/LANGUAGE.md lets a file hold."""

import ast
import builtins
import importlib
import inspect
import pathlib
import unittest

import asifcopied

PACKAGE = pathlib.Path(asifcopied.__file__).parent
# The modules of the interface in its sequence, the further ones among them.
MODULES = """errors checks heaps changes lines growth fats labels moves cells splits tracks copying games duels forests
programs coding piles meanings folding machines queues trees holdings standings dropping ascents times differences journal
care runtime texts desk""".split()
INTERFACE = """
checks: is_heap(value, wide)
heaps: pointed(heap, wide), reached(heap, wide), seen(heap, wide), look_alike(one, other, wide)
changes: after(heap, deed, wide), are_parents(value), is_story(value, wide), parents_of(story, wide), heaps_of(story, wide)
changes: heap_at(story, wide, version)
lines: line_of(parents), place(parents, version), is_ahead(parents, one, other), next_in_line(parents, version)
lines: comes_of(parents, one, other), stretch(parents, version), meet(parents, one, other), is_line(value), tree_of(line)
fats: read_entries(parents, entries, version), least_entries(parents, made, values)
fats: is_right(parents, made, values, entries), Fat(wide), dear_story(many)
labels: most_in(level), Labels(bits), potential(labels), ledger(bits, puts), is_ledger(bits, puts, value)
moves: is_state(value, many), price_between(many, state, place, later), gap_behind(many, state, place)
moves: tight_place(many, state, left), halfway(many, state, place), least_price(many, items), keeping(many, items)
moves: forcing(many, items), is_keeping(many, items, price, value), is_forcing(many, items, price, value)
cells: Cells(wide, room, most)
splits: fault_of(story, wide, room, table)
copying: is_course(value, wide), touched(story, wide, version), is_plan(value, story, wide), used_slots(story, wide, plan)
copying: is_good(story, wide, extra, plan), copy_cells(story, wide, extra, plan), read_cells(cells, version, way)
copying: least_plan(story, wide, extra), reason_for(story, wide, extra, version, record), Copier(wide, extra)
duels: most_pointed(story, wide), paid_rows(story, wide, extra), adds_up(extra, most, value), is_shape(value)
duels: shape_story(shape, moves), ring_shape(most), ring_moves(most, extra, rounds)
duels: used_behind(shape, extra, used, record, copied), fewest(shape, extra, moves), best_plan(shape, extra, moves)
duels: holding(shape, extra, price), pressing(shape, extra, price), is_holding(shape, extra, price, value)
duels: is_pressing(shape, extra, price, value), duel_price(shape, extra)
forests: is_forest(shape), forest_weights(shape, extra), forest_price(shape, extra), forest_copies(shape, extra, counts)
forests: tree_shape(most, deep)
programs: is_program(value, wide), faults(program, wide)
coding: is_code(value, wide), heights(code, wide), compiled(program, wide)
meanings: run(program, heap, wide, name, given, most)
folding: folded(program, wide)
machines: Plain(wide), Machine(code, keeper, version, name, given, most)
queues: queue_program(), ends_program()
trees: tree_program()
dropping: is_standing(value, many), needed(story, wide, standing), readers(story, wide, standing, name)
dropping: serves(story, wide, standing, rows), least_rows(story, wide, standing)
dropping: are_reasons(story, wide, standing, value), most_reasons(story, wide, standing), questions(story, wide, standing)
dropping: Kept(wide), kept_of(state)
ascents: way_up(parents, version), depths(parents), way_between(parents, one, other)
ascents: shallowest_between(parents, one, other), Jumps(), maker(story, wide, version, record)
times: led_to(heap, wide, way), times_of(story, wide, way, value), since(story, wide, version, way)
times: giver(story, wide, version, record, field)
differences: unlike(story, wide, one, other), least_deed(one, other, wide), least_changes(one, other, wide)
journal: is_content(value), Disk(), Journal(disk, leave), goes_wrong(events, leave), wrong_run(rule)
care: care_rules(), seen_without(wide, room, most, without, story), first_misread(wide, room, most, without, story)
care: story_without(rule)
runtime: is_name(value), Runtime(wide, disk)
texts: heap_text(heap, wide), read_heap(text), story_text(story, wide), read_story(text)
desk: Desk(wide)
"""
METHODS = {
    "fats.Fat": "deed(version, changes), heap(version), look(version), many(version), read(version, record, field), "
                "parents(), line(), story(), name(version, record), number(version, name), entries(name, field), count()",
    "labels.Labels": "put(item), label(item), is_ahead(one, other), behind(item), row(), moved(), copy(), __len__(), "
                     "__eq__(other)",
    "cells.Cells": "deed(version, changes), many(version), read(version, record, field), heap(version), root(version), "
                   "step(version, cell, field), walk(version, way), shown(version), line(), parents(), cells(), splits(), "
                   "things(cell), pointing(cell), split(cell, version)",
    "copying.Copier": "deed(version, changes), many(version), heap(version), read(version, record, field), plan(), cells(), "
                      "used()",
    "machines.Plain": "many(version), read(version, record, field), deed(version, changes), heap(version)",
    "machines.Machine": "step(), turn(many), is_over(), outcome(), standing(), end(), leaned()",
    "dropping.Kept": "deed(version, changes), many(version), read(version, record, field), look(version), "
                     "reaches(version), standing(), total(), drop(version), kept_rows(), count(), state()",
    "ascents.Jumps": "grow(parent), many(), parents(), jump(version), up(version, depth), first_with(version, marks, least)",
    "journal.Disk": "write(cell, content), read(cell), sync(), waiting(), cells(), allow(many), cut(landed)",
    "journal.Journal": "base(), logs(), line(), head(), log(content), sync(), compact(items)",
    "runtime.Runtime": "names(), many(name), reaches(name), read(name, record, field), look(name), standing(), total(), "
                       "kept_rows(), deed(name, changes, fresh), run(name, program, function, given, most, fresh), "
                       "put(name, other), take(name), acts(), sync(), compact(), told()",
    "desk.Desk": "say(line)"}
LET = """len range enumerate zip min max sum abs sorted reversed int str bool list tuple dict set isinstance ord repr any all
divmod ValueError super""".split()
WORDS = """append clear copy count endswith extend find get index insert isalnum isalpha isdigit islower isspace isupper
items join keys ljust lower lstrip partition pop remove replace reverse rfind rjust rpartition rsplit rstrip setdefault
split splitlines startswith strip update upper values zfill bit_length""".split()
BARRED = """mro elements open input law version_info with_traceback add_note register type typing enum Enum Flag Generic
Protocol ABC namedtuple dataclass overload contextmanager eval exec compile id dir vars globals locals getattr setattr
hasattr map chr format hash next iter filter print round float object""".split()
CHANGING = "append clear extend insert pop remove reverse setdefault update sort".split()
ITERATING = "list tuple dict sorted sum any all enumerate zip min max len reversed".split()
PLAIN = (ast.FunctionDef, ast.ClassDef, ast.ImportFrom, ast.Assign, ast.Expr)
BARRED_NODES = (ast.GeneratorExp, ast.SetComp, ast.Set, ast.AsyncFunctionDef, ast.Global, ast.Nonlocal, ast.Div, ast.Yield,
                ast.YieldFrom, ast.Import, ast.With, ast.Starred, ast.NamedExpr, ast.AnnAssign, ast.JoinedStr, ast.Pow)


def listed(text):
    """The names and the parameters of a list such as "f(a, b), g()"."""
    told = []
    for part in text.replace("), ", ")\n").split("\n"):
        name, params = part.rstrip(")").split("(")
        told.append((name, [param for param in params.split(", ") if param]))
    return told


def trees():
    return [(path, ast.parse(path.read_text())) for path in sorted(PACKAGE.glob("*.py"))]


def functions_above(tree, node):
    return [told.name for told in tree.body if isinstance(told, ast.FunctionDef) and told.lineno < node.lineno]


def is_plain(node, functions, inner=False):
    """Whether a module-level value is plain: constants, shifts of them, and tables of them and of functions."""
    if isinstance(node, ast.Dict) and not inner:
        return all(is_plain(part, functions, True) for part in node.keys + node.values)
    if isinstance(node, ast.Tuple):
        return all(is_plain(part, functions, True) for part in node.elts)
    if isinstance(node, ast.BinOp):
        return isinstance(node.op, ast.LShift) and is_plain(node.left, ()) and is_plain(node.right, ())
    return isinstance(node, ast.Constant) or isinstance(node, ast.Name) and node.id in functions


def without_copies(node):
    """The parts of an expression that a loop goes over, but for what is copied by list or sorted first."""
    if isinstance(node, ast.Call) and isinstance(node.func, ast.Name) and node.func.id in ("list", "sorted", "range"):
        return []
    if isinstance(node, ast.Subscript):
        return [node] + without_copies(node.value)
    return [node] + [part for inner in ast.iter_child_nodes(node) for part in without_copies(inner)]


def bound_in(function):
    """The names that are params or are assigned in a function, and in what is nested in it."""
    told = set()
    for node in ast.walk(function):
        if isinstance(node, ast.Name) and isinstance(node.ctx, ast.Store):
            told.add(node.id)
        if isinstance(node, ast.arg):
            told.add(node.arg)
        if isinstance(node, ast.FunctionDef) and node is not function:
            told.add(node.name)
    return told


def own_methods():
    told = set()
    for _, tree in trees():
        for node in ast.walk(tree):
            if isinstance(node, ast.ClassDef):
                told |= {part.name for part in node.body if isinstance(part, ast.FunctionDef)}
    return told


class TestInterface(unittest.TestCase):
    def test_functions_and_classes(self):
        for line in INTERFACE.strip().split("\n"):
            word, text = line.split(": ")
            module = importlib.import_module("asifcopied." + word)
            for name, params in listed(text):
                told = getattr(module, name)
                self.assertEqual(told.__module__, module.__name__)
                self.assertEqual(list(inspect.signature(told).parameters), params, name)

    def test_methods(self):
        for path, text in METHODS.items():
            word, name = path.split(".")
            told = getattr(importlib.import_module("asifcopied." + word), name)
            for method, params in listed(text):
                self.assertIn(method, vars(told))
                self.assertEqual(list(inspect.signature(vars(told)[method]).parameters), ["self"] + params, method)

    def test_init_defines_nothing(self):
        tree = ast.parse((PACKAGE / "__init__.py").read_text())
        self.assertTrue(all(isinstance(node, ast.Expr) for node in tree.body))


class TestLanguage(unittest.TestCase):
    def test_files(self):
        for path in PACKAGE.iterdir():
            if path.name == "__pycache__":
                continue
            self.assertEqual(path.suffix, ".py")
            text = path.read_text()
            self.assertTrue(all(sign == "\n" or " " <= sign <= "~" for sign in text), path)
            self.assertLessEqual(text.count("\n"), 399)
            self.assertLessEqual(max(map(len, text.split("\n"))), 120)
            self.assertTrue(text.endswith("\n"))

    def test_functions(self):
        for path, tree in trees():
            for node in ast.walk(tree):
                if isinstance(node, (ast.FunctionDef, ast.ClassDef)):
                    self.assertEqual(node.decorator_list, [])
                if isinstance(node, ast.FunctionDef):
                    self.assertLessEqual(node.end_lineno - node.lineno + 1, 40, (path, node.name))

    def test_module_level(self):
        for path, tree in trees():
            self.assertTrue(ast.get_docstring(tree), path)
            for at, node in enumerate(tree.body):
                self.assertIsInstance(node, PLAIN)
                if isinstance(node, ast.Assign):
                    self.assertTrue(is_plain(node.value, functions_above(tree, node)), (path, node.lineno))
                    self.assertEqual([type(target) for target in node.targets], [ast.Name])
                self.assertTrue(at == 0 or not isinstance(node, ast.Expr))

    def test_imports(self):
        for path, tree in trees():
            for node in ast.walk(tree):
                if not isinstance(node, ast.ImportFrom):
                    continue
                package, word = node.module.split(".")
                self.assertEqual((package, node.level), ("asifcopied", 0))
                self.assertLess(MODULES.index(word), MODULES.index(path.stem))
                told = importlib.import_module(node.module)
                for alias in node.names:
                    self.assertIsNone(alias.asname)
                    worth = getattr(told, alias.name)
                    self.assertEqual(getattr(worth, "__module__", told.__name__), told.__name__)

    def test_no_unused_import(self):
        for path, tree in trees():
            read = {node.id for node in ast.walk(tree) if isinstance(node, ast.Name)}
            for node in tree.body:
                for alias in getattr(node, "names", []):
                    self.assertIn(alias.name, read, path)

    def test_nodes(self):
        for path, tree in trees():
            for node in ast.walk(tree):
                self.assertNotIsInstance(node, BARRED_NODES, (path, getattr(node, "lineno", 0)))
                if isinstance(node, ast.Constant):
                    self.assertNotIsInstance(node.value, (float, complex, bytes))
                    self.assertNotIn("%", str(node.value))
                if isinstance(node, ast.ExceptHandler):
                    self.assertIsInstance(node.type, ast.Name)
                    self.assertIn(node.type.id, dir(importlib.import_module("asifcopied.errors")))
                if isinstance(node, ast.Raise):
                    self.assertIsInstance(node.exc, ast.Call)
                if isinstance(node, ast.Compare) and isinstance(node.ops[0], (ast.Is, ast.IsNot)):
                    self.assertIsInstance(node.comparators[0], ast.Constant)

    def test_names(self):
        for path, tree in trees():
            for node in ast.walk(tree):
                names = []
                if isinstance(node, ast.Name) and isinstance(node.ctx, ast.Store):
                    names = [node.id]
                elif isinstance(node, ast.FunctionDef):
                    names = [node.name] + [arg.arg for arg in node.args.args]
                elif isinstance(node, ast.Lambda):
                    names = [arg.arg for arg in node.args.args]
                for name in names:
                    if name in ("__init__", "__len__", "__eq__"):
                        continue
                    self.assertFalse(name.startswith("__"), (path, name))
                    self.assertNotIn(name, BARRED)
                    self.assertFalse(hasattr(builtins, name), (path, name))

    def test_builtins_and_methods(self):
        own = own_methods()
        for path, tree in trees():
            for node in ast.walk(tree):
                if isinstance(node, ast.Name) and isinstance(node.ctx, ast.Load) and hasattr(builtins, node.id):
                    self.assertIn(node.id, LET, (path, node.lineno))
                if isinstance(node, ast.Call) and isinstance(node.func, ast.Attribute):
                    self.assertIn(node.func.attr, own | set(WORDS), (path, node.lineno))
                if isinstance(node, ast.Attribute):
                    self.assertNotIn(node.attr, BARRED)

    def test_one_meaning_for_each_name(self):
        """No local name is that of a class, a function or an import of its file; no name is bound twice."""
        for path, tree in trees():
            names = [alias.name for node in tree.body if isinstance(node, ast.ImportFrom) for alias in node.names]
            names += [node.name for node in tree.body if isinstance(node, (ast.FunctionDef, ast.ClassDef))]
            names += [target.id for node in tree.body if isinstance(node, ast.Assign) for target in node.targets]
            self.assertEqual(len(set(names)), len(names), path)
            for node in ast.walk(tree):
                if isinstance(node, ast.ClassDef):
                    methods = [told.name for told in node.body if isinstance(told, ast.FunctionDef)]
                    self.assertEqual(len(set(methods)), len(methods), path)
                if isinstance(node, ast.FunctionDef):
                    self.assertEqual(bound_in(node) & set(names), set(), (path, node.name))

    def test_what_is_iterated_over_is_not_changed(self):
        """No loop modifies, by its name, what it goes over."""
        for path, tree in trees():
            for node in ast.walk(tree):
                if not isinstance(node, ast.For):
                    continue
                over = {ast.unparse(part) for part in without_copies(node.iter)
                        if isinstance(part, (ast.Name, ast.Attribute, ast.Subscript))} - {"self", "range"}
                changed = set()
                for part in ast.walk(node):
                    if isinstance(part, ast.Call) and isinstance(part.func, ast.Attribute) and part.func.attr in CHANGING:
                        changed.add(ast.unparse(part.func.value))
                    if isinstance(part, ast.Subscript) and not isinstance(part.ctx, ast.Load):
                        changed.add(ast.unparse(part.value))
                called = {ast.unparse(part.func.value) for part in ast.walk(node.iter)
                          if isinstance(part, ast.Call) and isinstance(part.func, ast.Attribute)}
                self.assertEqual(over & changed - called, set(), (path, node.lineno))

    def test_ranges_and_views_are_not_handed_on(self):
        """range, zip and their kind are iterated at once, or kept by a plain local variable."""
        for path, tree in trees():
            for node in ast.walk(tree):
                parts = []
                if isinstance(node, ast.Return):
                    parts = [node.value]
                elif isinstance(node, (ast.Tuple, ast.List)):
                    parts = node.elts
                elif isinstance(node, ast.Assign) and not isinstance(node.targets[0], ast.Name):
                    parts = [node.value]
                elif isinstance(node, ast.Call):
                    name = node.func.id if isinstance(node.func, ast.Name) else ""
                    parts = [] if name in ITERATING else node.args
                for part in parts:
                    if isinstance(part, ast.Call) and isinstance(part.func, ast.Name):
                        self.assertNotIn(part.func.id, ("range", "zip", "enumerate", "reversed"), (path, part.lineno))
                    if isinstance(part, ast.Call) and isinstance(part.func, ast.Attribute):
                        self.assertNotIn(part.func.attr, ("items", "keys", "values"), (path, part.lineno))

    def test_attributes(self):
        """No name is a method and an attribute of one class; sets are stored nowhere in objects."""
        for path, tree in trees():
            for told in ast.walk(tree):
                if not isinstance(told, ast.ClassDef):
                    continue
                methods = {node.name for node in told.body if isinstance(node, ast.FunctionDef)}
                attributes = {node.attr for node in ast.walk(told)
                              if isinstance(node, ast.Attribute) and isinstance(node.ctx, ast.Store)}
                self.assertEqual(methods & attributes, set(), path)
                self.assertEqual(attributes & {"items", "keys", "values", "args", "sort", "format"}, set())


if __name__ == "__main__":
    unittest.main()
