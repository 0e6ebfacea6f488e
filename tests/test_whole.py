"""Points [1] to [5] over the whole program: examples by hand, what is passed and returned, and the limits from inside."""

import copy
import importlib
import inspect
import unittest

from asifcopied.ascents import Jumps, depths, maker, shallowest_between, way_between, way_up
from asifcopied.care import first_misread, seen_without
from asifcopied.cells import Cells
from asifcopied.changes import after, are_parents, heap_at, heaps_of, is_story, parents_of
from asifcopied.checks import is_heap
from asifcopied.coding import compiled
from asifcopied.copying import Copier, copy_cells, least_plan, read_cells, touched
from asifcopied.desk import Desk
from asifcopied.differences import least_changes, least_deed, unlike
from asifcopied.dropping import Kept, is_standing, kept_of, least_rows, questions
from asifcopied.duels import duel_price, ring_shape
from asifcopied.errors import BadDeed, BadText, CopyError, Fell, Full
from asifcopied.fats import Fat, least_entries
from asifcopied.forests import forest_weights
from asifcopied.heaps import look_alike, pointed, reached, seen
from asifcopied.journal import Disk, Journal
from asifcopied.labels import Labels
from asifcopied.lines import comes_of, is_ahead, line_of, meet, place, stretch, tree_of
from asifcopied.machines import Machine, Plain
from asifcopied.meanings import run
from asifcopied.moves import least_price, tight_place
from asifcopied.queues import queue_program
from asifcopied.runtime import Runtime
from asifcopied.splits import fault_of
from asifcopied.texts import heap_text, read_heap, read_story, story_text
from asifcopied.times import giver, led_to, since, times_of
from asifcopied.trees import tree_program

from test_language import INTERFACE, listed

STORY = [(0, [("make", (1, None)), ("set", 0, 0, ("to", 1))]), (1, [("set", 1, 0, 2)]),
         (1, [("make", (5, ("to", 1))), ("set", 0, 0, ("to", 2))])]
COURSE = STORY[:2] + [(2, [("make", (5, ("to", 1))), ("set", 0, 0, ("to", 2))])]
PARENTS = (None, 0, 1, 0, 1)
HEAP = ((("to", 2), None), (1, None), (5, ("to", 1)))
ONE = ((("to", 1), None), (1, None))
PAIR = ((), (0,))
PLAN = ((), (), ())
PROGRAM = (("f", ("x",), (("let", "y", ("plus", ("is", 1), ("is", 2))), ("set", ("root",), 0, ("var", "y")),
                          ("give", ("var", "x")))),)
CODE = compiled(PROGRAM, 2)
EVERY = (0, 1, 2, 3)


def calls():
    """Arguments for each function of the interface, as they may be passed and changed by the caller."""
    table, cells = Cells(2, 6, 2), copy_cells(COURSE, 2, 5, PLAN)
    for parent, deed in STORY:
        table.deed(parent, deed)
    return {
        "is_heap": [HEAP, 2], "pointed": [HEAP, 2], "reached": [HEAP, 2], "seen": [HEAP, 2], "look_alike": [HEAP, ONE, 2],
        "after": [HEAP, [("set", 1, 0, 2), ("make", (3, ("to", 3)))], 2], "are_parents": [PARENTS], "is_story": [STORY, 2],
        "parents_of": [STORY, 2], "heaps_of": [STORY, 2], "heap_at": [STORY, 2, 3], "line_of": [PARENTS], "place": [PARENTS, 3],
        "is_ahead": [PARENTS, 3, 1], "next_in_line": [PARENTS, 3], "comes_of": [PARENTS, 4, 1], "stretch": [PARENTS, 1],
        "meet": [PARENTS, 3, 4], "is_line": [(0, 3, 1, 4, 2)], "tree_of": [(0, 3, 1, 4, 2)],
        "read_entries": [PARENTS, ((1, 5), (2, 7)), 4], "least_entries": [PARENTS, 1, {1: None, 2: 7, 4: None}],
        "is_right": [PARENTS, 1, {4: None, 2: 7, 1: None}, ((1, None), (2, 7))], "dear_story": [3], "most_in": [9],
        "potential": [Labels(4)], "ledger": [4, [0, 0, 0]], "is_ledger": [4, [0, 0], ((0, 0), (0, 0))], "is_state": [(0, 2), 4],
        "price_between": [4, (0, 2), 0, (0, 1, 2)], "gap_behind": [4, (0, 2), 0], "tight_place": [4, (0, 2), 2],
        "halfway": [4, (0, 2), 0], "least_price": [3, 3], "keeping": [3, 3], "forcing": [3, 3],
        "is_keeping": [3, 3, 1, [1, {}]], "is_forcing": [3, 3, 1, {(0,): [1, 0]}], "fault_of": [STORY, 2, 6, table.cells()],
        "is_course": [COURSE, 2], "touched": [COURSE, 2, 2], "is_plan": [PLAN, COURSE, 2], "used_slots": [COURSE, 2, PLAN],
        "is_good": [COURSE, 2, 1, PLAN], "copy_cells": [COURSE, 2, 5, PLAN], "read_cells": [cells, 3, (0, 1)],
        "least_plan": [COURSE, 2, 0], "reason_for": [COURSE, 2, 0, 2, 1], "most_pointed": [COURSE, 2], "paid_rows": [COURSE, 2, 1],
        "adds_up": [1, 2, ((1, 0, 0, 1),)], "is_shape": [PAIR], "shape_story": [PAIR, [0, 1]], "ring_shape": [2],
        "ring_moves": [1, 2, 3], "used_behind": [PAIR, 1, (1, 0), 0, (0,)], "fewest": [PAIR, 1, [0, 1, 1]],
        "best_plan": [PAIR, 1, [0, 1, 1]], "holding": [PAIR, 1, (3, 4)], "pressing": [PAIR, 1, (3, 4)],
        "is_holding": [PAIR, 1, (3, 4), {(0, 0): [1]}], "is_pressing": [PAIR, 1, (3, 4), {(0, 0): [1]}], "duel_price": [PAIR, 1],
        "is_forest": [PAIR], "forest_weights": [PAIR, 1], "forest_price": [PAIR, 1], "forest_copies": [PAIR, 1, (4, 2)],
        "tree_shape": [2, 2], "is_program": [PROGRAM, 2], "faults": [PROGRAM, 2], "is_code": [CODE, 2], "heights": [CODE, 2],
        "compiled": [PROGRAM, 2], "run": [PROGRAM, HEAP, 2, "f", [5], 50], "folded": [PROGRAM, 2], "queue_program": [],
        "ends_program": [], "tree_program": [], "is_standing": [(0, 2), 4], "needed": [STORY, 2, EVERY],
        "readers": [STORY, 2, EVERY, (1, 0)], "serves": [STORY, 2, EVERY, least_rows(STORY, 2, EVERY)],
        "least_rows": [STORY, 2, EVERY], "are_reasons": [STORY, 2, EVERY, [((0, 0), 0, None, 0)]], "most_reasons": [STORY, 2, EVERY],
        "questions": [STORY, 2, EVERY], "kept_of": [Kept(2).state()], "way_up": [PARENTS, 4], "depths": [PARENTS],
        "way_between": [PARENTS, 4, 3], "shallowest_between": [PARENTS, 4, 3], "maker": [STORY, 2, 3, 2], "led_to": [HEAP, 2, (0, 1)],
        "times_of": [STORY, 2, (0, 0), 1], "since": [STORY, 2, 2, (0,)], "giver": [STORY, 2, 3, 1, 0], "unlike": [STORY, 2, 2, 3],
        "least_deed": [ONE, HEAP, 2], "least_changes": [ONE, HEAP, 2], "is_content": [(1, ("a", None))],
        "goes_wrong": [[("log", "a"), ("cut", ())], "gap"], "wrong_run": ["gap"], "care_rules": [],
        "seen_without": [2, 3, 2, "met", STORY], "first_misread": [2, 3, 2, "met", STORY], "story_without": ["met"], "is_name": ["a1"],
        "heap_text": [HEAP, 2], "read_heap": [heap_text(HEAP, 2)], "story_text": [STORY, 2], "read_story": [story_text(STORY, 2)]}


def objects():
    """For each class of the interface a maker of objects, and the questions that can be asked of them."""
    def told(keeper, story=STORY):
        for parent, deed in story:
            keeper.deed(parent, deed)
        return keeper

    def labels():
        made = Labels(bits=4)
        made.put(item=0)
        return made

    def jumps():
        made = Jumps()
        made.grow(parent=0)
        made.grow(1)
        return made

    def machine():
        made = Machine(code=CODE, keeper=Plain(2), version=0, name="f", given=[5], most=50)
        made.turn(many=50)
        return made

    def journal():
        made = Journal(disk=Disk(), leave=None)
        made.compact(items=["a"])
        made.log(content="b")
        return made

    def disk():
        made = Disk()
        made.write(cell=3, content="a")
        made.sync()
        made.write(1, "b")
        return made

    def runtime():
        made = Runtime(wide=2, disk=Disk())
        made.deed(name="main", changes=[("make", (1, None)), ("set", 0, 0, ("to", 1))], fresh="a")
        return made

    return {
        "Fat": (lambda: told(Fat(wide=2)), [("heap", [3]), ("look", [3]), ("many", [3]), ("read", [3, 1, 0]), ("parents", []),
                                            ("line", []), ("story", []), ("name", [3, 2]), ("number", [3, (1, 0)]),
                                            ("entries", [(0, 0), 0]), ("count", [])]),
        "Labels": (labels, [("label", [1]), ("is_ahead", [0, 1]), ("behind", [0]), ("row", []), ("moved", [])]),
        "Cells": (lambda: told(Cells(wide=2, room=2, most=2)), [
            ("heap", [3]), ("many", [3]), ("read", [3, 1, 0]), ("root", [3]), ("walk", [3, [0, 1]]), ("shown", [3]), ("line", []),
            ("parents", []), ("cells", []), ("splits", []), ("things", [0]), ("pointing", [1]), ("step", [0, 0, 0])]),
        "Copier": (lambda: told(Copier(wide=2, extra=1), COURSE), [("heap", [3]), ("many", [3]), ("read", [3, 1, 0]), ("plan", []),
                                                                   ("cells", []), ("used", [])]),
        "Plain": (lambda: told(Plain(wide=2)), [("heap", [3]), ("many", [3]), ("read", [3, 1, 0])]),
        "Kept": (lambda: told(Kept(wide=2)), [("standing", []), ("total", []), ("many", [3]), ("reaches", [3]), ("read", [3, 1, 0]),
                                              ("look", [3]), ("kept_rows", []), ("count", []), ("state", [])]),
        "Machine": (machine, [("is_over", []), ("outcome", []), ("standing", []), ("leaned", [])]),
        "Jumps": (jumps, [("many", []), ("parents", []), ("jump", [2]), ("up", [2, 0]), ("first_with", [2, [0, 1, 1], 1])]),
        "Disk": (disk, [("read", [3]), ("waiting", []), ("cells", [])]),
        "Journal": (journal, [("base", []), ("logs", []), ("line", []), ("head", [])]),
        "Runtime": (runtime, [("names", []), ("many", ["a"]), ("reaches", ["a"]), ("read", ["a", 1, 0]), ("look", ["a"]),
                              ("standing", []), ("total", []), ("kept_rows", []), ("acts", []), ("told", [])]),
        "Desk": (lambda: Desk(wide=2), [("say", ["text"]), ("say", ["at"]), ("say", ["what"])])}


def spoil(value):
    """Change all lists and dicts in a value, at every depth."""
    if isinstance(value, (list, tuple)):
        for part in value:
            spoil(part)
    if isinstance(value, dict):
        for part in value.values():
            spoil(part)
        value.clear()
        value["spoilt"] = True
    if isinstance(value, list):
        value.append("spoilt")


def told(value):
    """What can be compared of a result: a Kept by its state."""
    return value.state() if isinstance(value, Kept) else value


class TestConventions(unittest.TestCase):
    def test_functions(self):
        """Nothing that is passed is changed; by position and by name; what is returned is new each time."""
        table = calls()
        for line in INTERFACE.strip().split("\n"):
            word, text = line.split(": ")
            module = importlib.import_module("asifcopied." + word)
            for name, params in listed(text):
                if inspect.isclass(getattr(module, name)):
                    continue
                function, args = getattr(module, name), table.pop(name)
                self.assertEqual(len(args), len(params), name)
                passed = copy.deepcopy(args)
                first = function(*passed)
                wanted = copy.deepcopy(told(first))
                self.assertEqual(passed, args, name)
                spoil(first)
                again = function(**dict(zip(params, passed)))
                self.assertEqual(told(again), wanted, name)
                self.assertEqual(passed, args, name)
        self.assertEqual(table, {})

    def test_objects(self):
        for name, (made, asked) in objects().items():
            one = made()
            self.assertNotEqual(one, made() if name != "Labels" else 5)
            wanted = [copy.deepcopy(getattr(one, method)(*args)) for method, args in asked]
            for (method, args), answer in zip(asked, wanted):
                params = list(inspect.signature(getattr(one, method)).parameters)
                passed = copy.deepcopy(args)
                by_name = getattr(one, method)(**dict(zip(params, passed)))
                self.assertEqual(by_name, answer, (name, method))
                self.assertEqual(passed, args)
                spoil(by_name)
                spoil(passed)
            self.assertEqual([getattr(one, method)(*args) for method, args in asked], wanted, name)

    def test_what_is_passed_may_be_changed_later(self):
        for keeper in [Fat(2), Cells(2, 6, 3), Copier(2, 1), Plain(2), Kept(2)]:
            for parent, deed in copy.deepcopy(COURSE):
                passed = list(deed)
                keeper.deed(parent, passed)
                self.assertEqual(passed, deed)
                spoil(passed)
            reads = [keeper.read(3, 1, 0), keeper.read(3, 2, 1), keeper.read(3, 0, 0)]
            self.assertEqual(reads, [2, ("to", 1), ("to", 2)])

    def test_tuples_where_lists_are_expected(self):
        story = tuple((parent, tuple(deed)) for parent, deed in STORY)
        self.assertEqual(heaps_of(story, 2), heaps_of(STORY, 2))
        self.assertEqual((unlike(story, 2, 2, 3), times_of(story, 2, (0, 0), 1)), (unlike(STORY, 2, 2, 3), [(1, 1)]))
        self.assertEqual((story_text(story, 2), needed_rows(story)), (story_text(STORY, 2), needed_rows(STORY)))

    def test_errors_stand_below_one(self):
        for error in [BadDeed(1), BadText(line=3), Fell("x"), Full(many=5)]:
            self.assertIsInstance(error, CopyError)
            self.assertIsInstance(error, ValueError)


def needed_rows(story):
    return least_rows(story, 2, EVERY)


class TestByHand(unittest.TestCase):
    """The examples by hand of the points, one behind another."""

    def test_heaps_and_lines(self):
        heaps = heaps_of(STORY, 2)
        self.assertEqual(heaps, (((None, None),), ONE, ((("to", 1), None), (2, None)), HEAP))
        self.assertEqual(seen(heaps[3], 2), ((("to", 1), None), (5, ("to", 2)), (1, None)))
        with self.assertRaises(BadDeed) as caught:
            after(heaps[1], [("set", 1, 2, 0)], 2)
        self.assertEqual(caught.exception.at, 0)
        self.assertEqual((line_of(PARENTS), stretch(PARENTS, 1), meet(PARENTS, 3, 4), meet(PARENTS, 4, 2)),
                         ((0, 3, 1, 4, 2), (2, 4), 0, 1))
        self.assertEqual(least_entries(PARENTS, 1, {1: None, 2: 7, 4: None}), ((1, None), (2, 7)))
        self.assertEqual(least_entries(PARENTS, 1, {1: None, 2: None, 4: 7}), ((1, None), (4, 7), (2, None)))
        fat = Fat(1)
        self.assertEqual([fat.deed(0, []), fat.deed(0, [("set", 0, 0, 5)]), fat.deed(0, [("set", 0, 0, 5)])], [1, 2, 3])
        self.assertEqual((fat.line(), fat.entries((0, 0), 0), fat.count()), ((0, 3, 2, 1), ((0, None), (3, 5), (1, None)), 3))

    def test_labels_and_moves(self):
        labels = Labels(4)
        for _ in range(4):
            labels.put(0)
        self.assertEqual([labels.label(item) for item in range(5)], [0, 8, 4, 2, 1])
        with self.assertRaises(Full) as caught:
            labels.put(0)
        self.assertEqual(caught.exception.many, 5)
        labels = Labels(9)
        self.assertEqual([labels.put(0) for _ in range(10)], [0] * 9 + [9])
        self.assertEqual([labels.label(item) for item in labels.row()][:4], [0, 46, 93, 139])
        self.assertEqual((tight_place(4, (0, 2), 2), least_price(3, 3)), (0, 1))

    def test_cells_and_duels(self):
        cells = Cells(1, 1, 1)
        cells.deed(0, [("make", (None,)), ("set", 0, 0, ("to", 1))])
        cells.deed(1, [("set", 1, 0, 6)])
        cells.deed(2, [("set", 1, 0, 7)])
        self.assertEqual(cells.cells()[2:], (((1, 1), 3, (7,), ()), ((0, 0), 3, (("in", 2),), ())))
        self.assertEqual((cells.splits(), cells.walk(3, [0, 0]), cells.walk(2, [0, 0]), cells.root(3)), (2, 7, 6, 3))
        self.assertIsNone(fault_of([(0, [("make", (None,)), ("set", 0, 0, ("to", 1))]), (1, [("set", 1, 0, 6)]),
                                    (2, [("set", 1, 0, 7)])], 1, 1, cells.cells()))
        self.assertEqual((forest_weights(PAIR, 1), duel_price(PAIR, 1)), ((4, (3, 2)), (3, 4)))
        self.assertEqual((duel_price(ring_shape(1), 1), duel_price(ring_shape(2), 2)), ((1, 1), (4, 5)))

    def test_standing_and_times(self):
        kept = Kept(1)
        kept.deed(0, [("make", (5,)), ("set", 0, 0, ("to", 1))])
        kept.deed(1, [("set", 1, 0, 6)])
        kept.deed(1, [])
        story = [(0, [("make", (5,)), ("set", 0, 0, ("to", 1))]), (1, [("set", 1, 0, 6)]), (1, [])]
        self.assertEqual(questions(story, 1, EVERY), ((0, (0,)), (1, (0,)), (1, (0, 0)), (2, (0, 0))))
        for gone in (1, 3):
            kept.drop(gone)
            self.assertEqual(kept.kept_rows(), least_rows(story, 1, kept.standing()))
        self.assertEqual(unlike(STORY, 2, 2, 3), (2, [(0, 0, ("to", 1), ("to", 2)), (1, 0, 2, 1)]))
        self.assertEqual((times_of(STORY, 2, (0, 0), 1), giver(STORY, 2, 3, 1, 0)), ([(1, 1)], 1))
        heaps = heaps_of(STORY, 2)
        self.assertEqual(least_changes(heaps[1], heaps[3], 2), 2)

    def test_journal_care_and_texts(self):
        disk = Disk()
        Journal(disk).log("b")
        disk.allow(1)
        with self.assertRaises(Fell):
            Journal(disk)
        disk.cut(())
        self.assertEqual(Journal(disk).line(), ("b",))
        story = [(0, []), (0, [("set", 0, 0, 1)])]
        self.assertEqual(seen_without(1, 9, 1, "behind", story), (((None,),), ((1,),), ((1,),)))
        self.assertEqual(first_misread(1, 9, 1, "behind", story), 1)
        self.assertEqual(heap_text(HEAP, 2), "heap 2 3\nrecord @2 none\nrecord 1 none\nrecord 5 @1\n")
        with self.assertRaises(BadText) as caught:
            read_story(story_text(STORY, 2).replace("set 0 0 @2", "set 0 0 @3"))
        self.assertEqual(caught.exception.line, 9)


class TestLimits(unittest.TestCase):
    """Chains of 1,000 to 1,400 records, rows of 1,000 to 1,300 versions, through everything that takes them."""

    def test_a_chain(self):
        many = 1400
        chain = tuple((record, ("to", record + 1)) for record in range(many - 1)) + ((many - 1, None),)
        self.assertTrue(is_heap(chain, 2))
        self.assertEqual((pointed(chain, 2), reached(chain, 2)), ((0,) + (1,) * (many - 1), tuple(range(many))))
        self.assertEqual((seen(chain, 2), look_alike(chain, chain, 2)), (chain, True))
        way = (1,) * (many - 1) + (0,)
        self.assertEqual(led_to(chain, 2, way), many - 1)
        self.assertEqual(read_heap(heap_text(chain, 2)), (chain, 2))
        deed = least_deed(((None, None),), chain, 2)
        self.assertEqual(after(((None, None),), deed, 2), chain)
        for keeper in [Plain(2), Fat(2), Cells(2, 8, 1), Copier(2, 2)]:
            self.assertEqual(keeper.heap(keeper.deed(0, deed)), chain)
            self.assertEqual(keeper.heap(keeper.deed(1, [("set", many - 1, 0, -1)]))[many - 1], (-1, None))
        kept = Kept(2)
        self.assertEqual(kept.look(kept.deed(0, deed)), chain)
        kept.drop(0)
        self.assertEqual(kept_of(kept.state()).look(1), chain)
        cells = Cells(2, 8, 1)
        cells.deed(0, deed)
        self.assertEqual((cells.shown(1), cells.walk(1, list(way))), (chain, many - 1))
        self.assertEqual((since([(0, deed)], 2, 1, way), giver([(0, deed)], 2, 1, many - 1, 0), maker([(0, deed)], 2, 1, 9)), (1, 1, 1))

    def test_a_row(self):
        many = 1300
        story = [(at, [("set", 0, 0, at % 7), ("set", 0, 1, at)]) for at in range(many)]
        self.assertTrue(is_story(story, 2))
        parents = parents_of(story, 2)
        self.assertTrue(are_parents(parents))
        heaps = heaps_of(story, 2)
        self.assertEqual((heaps[-1], heap_at(story, 2, many)), ((((many - 1) % 7, many - 1),), heaps[many]))
        line = line_of(parents)
        self.assertEqual((tree_of(line), place(parents, many), is_ahead(parents, 5, many)), (parents, many, True))
        self.assertEqual((comes_of(parents, many, 0), meet(parents, many, 7), stretch(parents, 4)), (True, 7, (4, many)))
        self.assertEqual((way_up(parents, many)[::-1], depths(parents)[many]), (line, many))
        self.assertEqual((len(way_between(parents, 0, many)[1]), shallowest_between(parents, 0, many)), (many, 1))
        for keeper in [Plain(2), Fat(2), Cells(2, 8, 1), Copier(2, 3), Kept(2)]:
            for parent, deed in story:
                keeper.deed(parent, deed)
            for version in (0, 1, 700, many):
                self.assertEqual((keeper.read(version, 0, 0), keeper.read(version, 0, 1)), heaps[version][0])
        self.assertEqual(read_story(story_text(story, 2)), (story, 2))
        self.assertEqual((since(story, 2, many, (1,)), giver(story, 2, many, 0, 0)), (many, many))
        self.assertEqual(times_of(story, 2, (0,), 3)[:2], [(4, 4), (11, 11)])
        self.assertEqual(unlike(story, 2, 1, many), (1, [(0, 0, 0, (many - 1) % 7), (0, 1, 0, many - 1)]))
        self.assertTrue(is_standing(tuple(range(many + 1)), many + 1))
        self.assertEqual((touched(story, 2, many), len(least_plan(story, 2, 3))), (((0, 0), (0, 1)), many))
        self.assertEqual(read_cells(copy_cells(story, 2, 3, least_plan(story, 2, 3)), many, (1,)), many - 1)
        self.assertIsNone(first_misread(2, 9, 1, None, story))

    def test_a_chain_that_grows_along_a_row(self):
        """1,000 versions, each with one record more; the last one in all its keepers."""
        many = 1000
        story = [(at, [("make", (at, ("to", at) if at else None)), ("set", 0, 0, ("to", at + 1))]) for at in range(many)]
        heap = heap_at(story, 2, many)
        for keeper in [Fat(2), Cells(2, 10, 2), Copier(2, 3), Plain(2)]:
            for parent, deed in story:
                keeper.deed(parent, deed)
            self.assertEqual(keeper.heap(many), heap)
            self.assertEqual(len(keeper.heap(many // 2)), many // 2 + 1)
        self.assertEqual(maker(story, 2, many, 400), 400)
        self.assertEqual(led_to(heap, 2, (0,) + (1,) * (many - 1) + (0,)), 0)

    def test_a_runtime_and_a_desk(self):
        disk = Disk()
        runtime, desk = Runtime(2, disk), Desk(2)
        for at in range(1000):
            runtime.deed("main", [("set", 0, at % 2, at)], "main")
            desk.say("set " + str(at % 2) + " " + str(at))
        runtime.compact()
        self.assertEqual(Runtime(2, disk).look("main"), ((998, 999),))
        self.assertEqual((desk.say("at"), desk.say("read 1"), desk.say("when 0 998")), ("version 1000", "999", "999-1000"))
        self.assertEqual(len(read_story(desk.say("text"))[0]), 1000)

    def test_programs_over_long_rows(self):
        self.assertEqual(run(queue_program(), ((None, None),), 2, "put", [7], 100)[2], 8)
        runtime = Runtime(4, Disk())
        for x in range(60):
            self.assertEqual(runtime.run("main", tree_program(), "put", [x * 7 % 60], 8000, "main"), (1, x + 1))
        self.assertEqual(runtime.run("main", tree_program(), "many", [], 8000, "main")[0], 60)


if __name__ == "__main__":
    unittest.main()
