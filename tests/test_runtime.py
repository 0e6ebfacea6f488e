"""Points [120] to [122]: a runtime with names, over a Kept and a journal."""

import copy
import itertools
import random
import unittest

from asifcopied.errors import (BadDeed, BadDisk, BadField, BadGiven, BadMost, BadName, BadProgram, BadWide, Fell, LastName,
                               NoRecord, Stopped, Unknown)
from asifcopied.journal import Disk, Journal
from asifcopied.queues import queue_program
from asifcopied.runtime import Runtime, is_name

from plain import drawn_deed, not_numbers, odd_values, plain_copy, plain_seen
from plain_dropping import plain_reached, plain_rows, size
from plain_programs import drawn_program, plain_run
from test_kept import bad_place

BAD_NAMES = ["", "A", "1a", "a b", "a_", "_a", "aA", "a" * 21, " a", "a ", "a-b", None, True, 1, ("a",), ["a"], {}, "0"]
QUEUE = queue_program()


class Model:
    """Copies of the whole heap, made with each act; and all acts, to be done again."""

    def __init__(self, wide):
        self.wide = wide
        self.story = []
        self.heaps = [((None,) * wide,)]
        self.names = {"main": 0}
        self.behind = [{"main": 0}]
        # How many versions there were behind each act.
        self.totals = [1]

    def end(self):
        self.behind.append(dict(self.names))
        self.totals.append(len(self.heaps))

    def deed(self, name, changes, fresh):
        self.story.append((self.names[name], list(changes)))
        self.heaps.append(plain_copy(self.heaps[self.names[name]], changes))
        self.names[fresh] = len(self.story)
        self.end()

    def put(self, name, other):
        self.names[name] = self.names[other]
        self.end()

    def take(self, name):
        del self.names[name]
        self.end()

    def back_to(self, acts):
        """What there was behind so many acts."""
        other = Model(self.wide)
        other.behind, other.totals = self.behind[:acts + 1], self.totals[:acts + 1]
        other.names = dict(other.behind[-1])
        other.story, other.heaps = self.story[:other.totals[-1] - 1], self.heaps[:other.totals[-1]]
        return other


class Check(unittest.TestCase):
    def same(self, runtime, model):
        """All that can be asked, against the copies."""
        self.assertEqual(list(runtime.names().items()), sorted(model.names.items()))
        standing = tuple(sorted(set(model.names.values())))
        self.assertEqual((runtime.standing(), runtime.total()), (standing, len(model.heaps)))
        self.assertEqual(runtime.acts(), len(model.behind) - 1)
        self.assertEqual(runtime.kept_rows(), plain_rows(model.story, model.wide, standing))
        for name, version in model.names.items():
            heap = model.heaps[version]
            reached = plain_reached(heap)
            self.assertEqual((runtime.many(name), runtime.reaches(name)), (len(heap), tuple(reached)))
            self.assertEqual(runtime.look(name), plain_seen(heap))
            for record in reached:
                self.assertEqual(tuple(runtime.read(name, record, field) for field in range(model.wide)), heap[record])

    def act(self, rng, runtime, model):
        """A drawn act, or one that is refused; whether it was done."""
        known = list(model.names)
        name = rng.choice(known)
        fresh = rng.choice(known + [rng.choice(["a", "b", "cc", "d1"])])
        kind = rng.choice(["deed"] * 5 + ["put", "put", "take", "run"])
        if kind == "deed":
            heap = model.heaps[model.names[name]]
            changes = drawn_deed(rng, heap, model.wide, records=len(heap) + 2)
            if bad_place(heap, changes) is not None:
                with self.assertRaises(BadDeed) as caught:
                    runtime.deed(name, changes, fresh)
                self.assertEqual(caught.exception.at, bad_place(heap, changes))
                return False
            passed = copy.deepcopy(changes)
            self.assertEqual(runtime.deed(name, passed, fresh), len(model.heaps))
            passed.clear()
            model.deed(name, changes, fresh)
        elif kind == "run":
            return self.run_one(rng, runtime, model, name, fresh)
        elif kind == "put":
            self.assertIsNone(runtime.put(fresh, name))
            model.put(fresh, name)
        elif len(known) == 1:
            with self.assertRaises(LastName):
                runtime.take(name)
            return False
        else:
            self.assertIsNone(runtime.take(name))
            model.take(name)
        return True

    def run_one(self, rng, runtime, model, name, fresh):
        program = drawn_program(rng, model.wide)
        function, params, _ = rng.choice(program)
        heap = model.heaps[model.names[name]]
        given = [rng.choice([None, 2, ("to", rng.choice(plain_reached(heap)))]) for _ in params]
        told = plain_run(program, heap, model.wide, function, given, 120)
        if told[0] == "stopped":
            with self.assertRaises(Stopped) as caught:
                runtime.run(name, program, function, given, 120, fresh)
            self.assertEqual((caught.exception.word, caught.exception.steps), told[1:])
            return False
        self.assertEqual(runtime.run(name, program, function, given, 120, fresh), (told[1], len(model.heaps)))
        model.deed(name, told[2], fresh)
        return True


class TestNames(unittest.TestCase):
    def test_is_name(self):
        for value in ["a", "z", "main", "v0", "a1b2", "a" * 20, "z9" * 10]:
            self.assertIs(is_name(value=value), True)
        for value in BAD_NAMES + odd_values():
            self.assertIs(is_name(value), type(value) is str and value in ("to", "set", "in"), value)


class TestActs(Check):
    def test_against_copies(self):
        for seed in range(40):
            rng = random.Random(seed)
            wide = 1 + seed % 3
            disk = Disk()
            runtime, model = Runtime(wide, disk), Model(wide)
            self.assertEqual(runtime.wide, wide)
            for _ in range(25):
                before, state = disk.waiting(), (runtime.names(), runtime.total(), runtime.acts())
                done = self.act(rng, runtime, model)
                # Each act one write more; what is refused writes nothing and changes nothing.
                self.assertEqual(len(disk.waiting()), len(before) + done)
                if not done:
                    self.assertEqual((runtime.names(), runtime.total(), runtime.acts()), state)
                self.same(runtime, model)
            self.assertEqual(runtime.told(), 0)

    def test_nothing_on_the_disk_but_the_journal(self):
        disk = Disk()
        runtime = Runtime(wide=2, disk=disk)
        self.assertEqual((disk.cells(), disk.waiting()), ({1: (0, 1)}, ()))
        self.assertEqual((runtime.names(), runtime.standing(), runtime.acts(), runtime.told()), ({"main": 0}, (0,), 0, 0))
        runtime.deed("main", [("set", 0, 0, 1)], "main")
        runtime.put("b", "main")
        runtime.take("main")
        self.assertEqual(disk.waiting(), (3, 5, 7))
        runtime.sync()
        self.assertEqual((disk.waiting(), runtime.told()), ((), 3))

    def test_by_hand(self):
        disk = Disk()
        runtime = Runtime(1, disk)
        self.assertEqual(runtime.deed(name="main", changes=[("set", 0, 0, 7)], fresh="main"), 1)
        runtime.put(name="old", other="main")
        runtime.sync()
        self.assertEqual(runtime.deed("main", (("set", 0, 0, 8),), "main"), 2)
        self.assertEqual(runtime.names(), {"main": 2, "old": 1})
        self.assertEqual(runtime.kept_rows(), (((0, 0), 0, ((1, 7), (2, 8))),))
        self.assertEqual((runtime.acts(), runtime.told()), (3, 2))
        disk.cut(())
        again = Runtime(1, disk)
        self.assertEqual((again.names(), again.acts(), again.told()), ({"main": 1, "old": 1}, 2, 2))
        self.assertEqual(again.deed("old", [], "main"), 2)

    def test_names_leave(self):
        runtime = Runtime(1, Disk())
        runtime.deed("main", [], "a")
        self.assertEqual(runtime.standing(), (0, 1))
        runtime.put("a", "main")
        self.assertEqual((runtime.standing(), runtime.total()), ((0,), 2))
        runtime.put("a", "a")
        runtime.take(name="main")
        self.assertEqual((runtime.names(), runtime.standing(), runtime.acts()), ({"a": 0}, (0,), 4))
        with self.assertRaises(LastName):
            runtime.take("a")
        runtime.names().clear()
        self.assertEqual(runtime.names(), {"a": 0})

    def test_a_program_goes_on(self):
        runtime = Runtime(2, Disk())
        for item in range(5):
            self.assertEqual(runtime.run(name="main", program=QUEUE, function="put", given=[item], most=100, fresh="main"),
                             (None, item + 1))
        self.assertEqual(runtime.standing(), (5,))
        runtime.put("then", "main")
        for item in range(5):
            self.assertEqual(runtime.run("main", QUEUE, "take", (), 200, "main"), (item, 6 + item))
        self.assertEqual(runtime.run("then", QUEUE, "size", [], 200, "other"), (5, 11))
        self.assertEqual(runtime.reaches("main"), (0,))


class TestErrors(unittest.TestCase):
    def setUp(self):
        self.disk = Disk()
        self.runtime = Runtime(2, self.disk)
        # Record 1 is led to, record 2 is only there.
        self.runtime.deed("main", [("make", (5, None)), ("make", (6, None)), ("set", 0, 0, ("to", 1))], "main")
        self.runtime.put("b", "main")
        self.before = self.state()

    def state(self):
        runtime = self.runtime
        return (self.disk.waiting(), self.disk.cells(), runtime.names(), runtime.total(), runtime.acts(), runtime.told(),
                runtime.kept_rows(), runtime.standing())

    def tearDown(self):
        self.assertEqual(self.state(), self.before)

    def refused(self, error, call):
        with self.assertRaises(error) as caught:
            call()
        return caught.exception

    def test_made_of_nothing(self):
        for bad in not_numbers(1, 6):
            self.refused(BadWide, lambda: Runtime(bad, None))
        for bad in odd_values():
            self.refused(BadDisk, lambda: Runtime(1, bad))
        for value in odd_values():
            self.assertFalse(self.runtime == value)

    def test_names(self):
        runtime = self.runtime
        for bad in BAD_NAMES:
            for call in [lambda: runtime.many(bad), lambda: runtime.reaches(bad), lambda: runtime.read(bad, None, None),
                         lambda: runtime.look(bad), lambda: runtime.deed(bad, None, None), lambda: runtime.take(bad),
                         lambda: runtime.run(bad, None, None, None, None, None), lambda: runtime.put(bad, None),
                         lambda: runtime.put("c", bad), lambda: runtime.put(bad, "b"), lambda: runtime.put(bad, "unknown")]:
                self.refused(BadName, call)
        for call in [lambda: runtime.many("c"), lambda: runtime.reaches("c"), lambda: runtime.read("c", None, None),
                     lambda: runtime.look("c"), lambda: runtime.deed("c", None, None), lambda: runtime.take("c"),
                     lambda: runtime.run("c", None, None, None, None, None), lambda: runtime.put("b", "c"),
                     lambda: runtime.put("c", "c")]:
            self.assertEqual(self.refused(Unknown, call).name, "c")

    def test_reads(self):
        for bad in not_numbers(0, 1) + [2]:
            self.assertIs(self.refused(NoRecord, lambda: self.runtime.read("b", bad, None)).record, bad)
        for bad in not_numbers(0, 1):
            self.refused(BadField, lambda: self.runtime.read("b", 1, bad))
        self.assertEqual(self.runtime.read(name="b", record=1, field=0), 5)

    def test_deeds(self):
        for changes, at in [(None, None), ({}, None), ([None], 0), ([("set", 2, 0, 1)], 0), ([("set", 0, 0, ("to", 2))], 0),
                            ([("make", (1, 1)), ("set", 3, 0, ("to", 4))], 1), ([("set", 0, 0, True)], 0)]:
            # A fresh that is no name comes behind.
            self.assertEqual(self.refused(BadDeed, lambda: self.runtime.deed("b", changes, "B")).at, at)
        for bad in BAD_NAMES:
            self.refused(BadName, lambda: self.runtime.deed("b", [("set", 0, 0, 1)], bad))

    def test_runs(self):
        runtime = self.runtime
        for bad in [None, (), QUEUE[0], queue_program()[:1] + (("f", (), (("do", ("var", "x")),)),), 5]:
            self.refused(BadProgram, lambda: runtime.run("b", bad, None, None, None, None))
        for bad in BAD_NAMES + ["nothing"]:
            self.refused(BadName, lambda: runtime.run("b", QUEUE, bad, None, None, None))
        # Record 2 is in the plain heap, but the root does not lead to it.
        for bad in [None, 5, "x", {}, [], [1, 2], [True], [("to", 2)], [("to", 3)], [("to", -1)], [["to", 0]], [10 ** 18], ["1"]]:
            self.refused(BadGiven, lambda: runtime.run("b", QUEUE, "put", bad, None, None))
        for bad in not_numbers(0):
            self.refused(BadMost, lambda: runtime.run("b", QUEUE, "put", [("to", 1)], bad, None))
        for bad in BAD_NAMES:
            self.refused(BadName, lambda: runtime.run("b", QUEUE, "put", [1], 0, bad))
        told = self.refused(Stopped, lambda: runtime.run("b", QUEUE, "put", [1], 3, "c"))
        self.assertEqual((told.word, told.steps), ("steps", 3))
        bad = (("f", (), (("give", ("get", ("is", 1), 0)),)),)
        told = self.refused(Stopped, lambda: runtime.run("b", bad, "f", [], 30, "b"))
        self.assertEqual((told.word, told.steps), ("kind", 1))

    def test_fell(self):
        """What raised Fell is no act."""
        self.disk.allow(0)
        for call in [lambda: self.runtime.deed("b", [], "c"), lambda: self.runtime.put("c", "b"), lambda: self.runtime.take("b"),
                     lambda: self.runtime.run("b", QUEUE, "put", [1], 99, "b"), self.runtime.sync, self.runtime.compact]:
            self.refused(Fell, call)
        self.refused(Unknown, lambda: self.runtime.deed("c", [], "c"))
        self.refused(BadDeed, lambda: self.runtime.deed("b", None, "c"))


class TestCuts(Check):
    def come_up(self, runtime, model, disk, least):
        """A runtime that comes up has what there was behind a beginning of the acts, at least so many."""
        again = Runtime(model.wide, disk)
        self.assertLessEqual(least, again.acts())
        self.assertLessEqual(again.acts(), len(model.behind) - 1)
        self.assertEqual(again.told(), again.acts())
        other = model.back_to(again.acts())
        self.same(again, other)
        return again, other

    def test_cut_wherever(self):
        for seed in range(60):
            rng = random.Random(seed)
            wide = 1 + seed % 2
            disk = Disk()
            runtime, model, told = Runtime(wide, disk), Model(wide), 0
            for _ in range(30):
                kind = rng.choice(["act"] * 6 + ["sync", "compact", "cut", "again"])
                if kind == "act":
                    self.act(rng, runtime, model)
                elif kind == "sync":
                    runtime.sync()
                    told = len(model.behind) - 1
                elif kind == "compact":
                    runtime.compact()
                    told = len(model.behind) - 1
                elif kind == "cut":
                    disk.cut(tuple(at for at in range(len(disk.waiting())) if rng.random() < 0.5))
                    runtime, model = self.come_up(runtime, model, disk, told)
                    told = runtime.acts()
                else:
                    runtime, model = self.come_up(runtime, model, disk, len(model.behind) - 1)
                    told = runtime.acts()
                self.assertEqual(runtime.told(), told)
                self.same(runtime, model)

    def test_every_cut_behind_a_compact(self):
        disk = Disk()
        rng = random.Random(5)
        runtime, model = Runtime(2, disk), Model(2)
        for _ in range(8):
            self.act(rng, runtime, model)
        runtime.compact()
        acts = 0
        while acts < 4:
            acts += self.act(rng, runtime, model)
        self.assertEqual(len(disk.waiting()), 5)
        for size_of in range(6):
            for landed in itertools.combinations(range(5), size_of):
                other = copy.deepcopy(disk)
                other.cut(landed)
                self.come_up(runtime, model, other, runtime.told())

    def test_fell(self):
        """In the midst of an act, of compact, and of coming up; allowed 0, 1, 2, .."""
        for seed in range(12):
            for many in range(6):
                rng = random.Random(seed)
                disk = Disk()
                runtime, model = Runtime(1, disk), Model(1)
                for _ in range(6):
                    self.act(rng, runtime, model)
                if seed % 3 == 0:
                    runtime.sync()
                told = runtime.told()
                disk.allow(many)
                try:
                    if seed % 2:
                        runtime.compact()
                        told = runtime.told()
                    else:
                        Runtime(1, disk)
                        told = runtime.acts()
                except Fell:
                    self.assertEqual(disk.allowed, 0)
                straight = copy.deepcopy(disk)
                straight.allow(None)
                self.come_up(runtime, model, straight, len(model.behind) - 1)
                for size_of in range(len(disk.waiting()) + 1):
                    for landed in itertools.combinations(range(len(disk.waiting())), size_of):
                        other = copy.deepcopy(disk)
                        other.cut(landed)
                        again, behind = self.come_up(runtime, model, other, told)
                        self.act(rng, again, behind)
                        self.same(again, behind)

    def test_one_that_falls_when_it_comes_up_loses_nothing(self):
        """Once what waited is synced no act is lost to a later cut."""
        for many in (1, 2):
            disk = Disk()
            runtime = Runtime(1, disk)
            for number in range(5):
                runtime.deed("main", [("set", 0, 0, number)], "main")
            disk.allow(many)
            with self.assertRaises(Fell):
                Runtime(1, disk)
            disk.cut(())
            again = Runtime(1, disk)
            self.assertEqual((again.acts(), again.read("main", 0, 0)), (5, 4))

    def test_sizes_of_compact(self):
        for seed in range(20):
            rng = random.Random(seed)
            wide = 1 + seed % 3
            disk = Disk()
            runtime, model = Runtime(wide, disk), Model(wide)
            for turn in range(60):
                self.act(rng, runtime, model)
                if turn % 20 == 19:
                    runtime.compact()
                    self.assertEqual(disk.waiting(), (0,))
                    items = Journal(copy.deepcopy(disk)).base()
                    standing = set(model.names.values())
                    reads = sum(len(plain_reached(model.heaps[version])) for version in standing)
                    entries = sum(len(row[2]) for row in runtime.kept_rows())
                    most = 50 * (1 + len(standing) + reads + entries + len(model.names))
                    self.assertLessEqual(sum(map(size, items)), most)

    def test_nothing_else_is_held(self):
        """Many versions under one name, and long names: the items of compact stay small."""
        disk = Disk()
        runtime = Runtime(1, disk)
        for number in range(800):
            runtime.deed("main", [("make", (number,)), ("set", 0, 0, ("to", runtime.many("main")))], "main")
        runtime.put("n" * 20, "main")
        runtime.compact()
        items = Journal(copy.deepcopy(disk)).base()
        self.assertLessEqual(sum(map(size, items)), 50 * (1 + 1 + 2 + 2 + 2))
        again = Runtime(1, disk)
        self.assertEqual((again.acts(), again.total(), again.many("main"), again.reaches("main")), (801, 801, 801, (0, 800)))
        self.assertEqual(again.deed("main", [], "x"), 801)


if __name__ == "__main__":
    unittest.main()
