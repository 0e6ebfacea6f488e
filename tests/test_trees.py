"""Point [71]: a set of numbers in a search tree, over each keeper and at all versions."""

import itertools
import random
import unittest

from asifcopied.cells import Cells
from asifcopied.changes import after
from asifcopied.coding import compiled
from asifcopied.copying import Copier
from asifcopied.dropping import Kept
from asifcopied.errors import BadProgram
from asifcopied.fats import Fat
from asifcopied.folding import folded
from asifcopied.machines import Machine, Plain
from asifcopied.meanings import run
from asifcopied.programs import faults, is_program
from asifcopied.trees import tree_program

from plain import plain_copy, plain_pointed, plain_seen

PROGRAM = tree_program()
EMPTY = ((None,) * 4,)
GREATEST = 10 ** 18 - 1


def wanted(keys, name, given):
    """What a call gives, and the set behind it."""
    if name == "many":
        return len(keys), keys
    x = given[0]
    if name == "has":
        return int(x in keys), keys
    if name == "put":
        return int(x not in keys), keys | {x}
    if name == "drop":
        return int(x in keys), keys - {x}
    return min([key for key in keys if key > x], default=None), keys


class Check(unittest.TestCase):
    def look(self, heap, keys):
        """The words of the document: sides, levels, the root's fields, and how deep it goes."""
        self.assertEqual(heap[0][1:], (None,) * 3)
        self.assertLessEqual(max(plain_pointed(heap)), 1)
        told, deepest, top = [], 0, heap[0][0]
        waiting = [] if top is None else [(top[1], 1, None, None)]
        while waiting:
            record, deep, low, high = waiting.pop()
            key, level, left, right = heap[record]
            told.append(key)
            deepest = max(deepest, deep)
            self.assertTrue(low is None or low < key)
            self.assertTrue(high is None or key < high)
            if left is None:
                self.assertEqual(level, 1)
            else:
                self.assertEqual(heap[left[1]][1], level - 1)
                waiting.append((left[1], deep + 1, low, key))
            if right is None:
                self.assertEqual(level, 1)
            else:
                self.assertIn(heap[right[1]][1], (level, level - 1))
                again = heap[right[1]][3]
                if again is not None:
                    self.assertLess(heap[again[1]][1], level)
                waiting.append((right[1], deep + 1, key, high))
        self.assertEqual(sorted(told), sorted(keys))
        if keys:
            # A top of level at most log2(n + 1), and ways of at most twice so many records.
            self.assertLessEqual(2 ** heap[top[1]][1], len(keys) + 1)
            self.assertLess(2 ** deepest, (len(keys) + 1) ** 2 + 1)

    def call(self, heap, keys, name, given):
        """A call in a heap: the heap and the set behind it."""
        value, deed, steps = run(PROGRAM, heap, 4, name, given, 8000)
        told, behind = wanted(keys, name, given)
        self.assertEqual(value, told)
        if name in ("has", "many", "above") or value == 0:
            self.assertEqual(deed, [])
        heap = after(heap, deed, 4)
        self.look(heap, behind)
        return heap, behind

    def drawn(self, rng, keys):
        name = rng.choice(["put"] * 5 + ["drop"] * 3 + ["has", "above", "many"])
        return name, [] if name == "many" else [rng.choice(keys)]


class TestProgram(unittest.TestCase):
    def test_no_faults(self):
        self.assertTrue(is_program(PROGRAM, 4))
        self.assertEqual(faults(PROGRAM, 4), [])
        params = {name: len(params) for name, params, _ in PROGRAM}
        for name, many in [("has", 1), ("put", 1), ("drop", 1), ("many", 0), ("above", 1)]:
            self.assertEqual(params[name], many)
        self.assertEqual(tree_program(), PROGRAM)

    def test_other_wides(self):
        """It makes records of four fields, so it is no program for any other wide ([60])."""
        for wide in (1, 2, 3, 5, 6):
            self.assertFalse(is_program(PROGRAM, wide))
            with self.assertRaises(BadProgram):
                faults(PROGRAM, wide)


class TestCalls(Check):
    def test_against_a_set(self):
        for seed in range(30):
            rng = random.Random(seed)
            many = rng.choice([3, 8, 20, 60])
            keys = [rng.choice([rng.randrange(-9, 10), rng.randrange(-GREATEST, GREATEST)]) for _ in range(many)]
            heap, here = EMPTY, frozenset()
            for _ in range(60):
                heap, here = self.call(heap, here, *self.drawn(rng, keys))

    def test_great_numbers(self):
        keys = [GREATEST, -GREATEST, 0, GREATEST - 1, 1 - GREATEST, -1, 1]
        heap, here = EMPTY, frozenset()
        for x in keys:
            heap, here = self.call(heap, here, "put", [x])
        for x in keys:
            heap, here = self.call(heap, here, "above", [x])
            heap, here = self.call(heap, here, "has", [x])
        for x in keys:
            heap, here = self.call(heap, here, "drop", [x])

    def test_every_sequence_of_few(self):
        """All sequences of puts of five keys, and drops in three sequences."""
        for keys in itertools.permutations(range(5)):
            heap, here = EMPTY, frozenset()
            for x in keys:
                heap, here = self.call(heap, here, "put", [x])
            for gone in [keys, keys[::-1], sorted(keys)]:
                less, fewer = heap, here
                for x in gone:
                    less, fewer = self.call(less, fewer, "drop", [x])
                self.assertEqual(less[0], (None,) * 4)

    def test_sixty_keys(self):
        """Keys that rise, fall, and are drawn; then dropped one by one again."""
        rng = random.Random(7)
        for keys in [range(60), range(0, -60, -1), rng.sample(range(-10 ** 17, 10 ** 17), 60)]:
            heap, here = EMPTY, frozenset()
            for x in keys:
                heap, here = self.call(heap, here, "put", [x])
                heap, here = self.call(heap, here, "put", [x])
            heap, here = self.call(heap, here, "many", [])
            for x in keys:
                for near in (x - 1, x, x + 1):
                    heap, here = self.call(heap, here, "has", [near])
                    heap, here = self.call(heap, here, "above", [near])
            for gone in [list(keys)[::-1], rng.sample(list(keys), 60)]:
                less, fewer = heap, here
                for x in gone:
                    less, fewer = self.call(less, fewer, "drop", [x])
                    less, fewer = self.call(less, fewer, "drop", [x])
                self.assertEqual(less[0], (None,) * 4)

    def test_open_calls_and_steps(self):
        code = compiled(PROGRAM, 4)
        plain, version, deepest = Plain(4), 0, 0
        calls = [("put", [x]) for x in range(60)] + [("many", []), ("above", [30]), ("has", [59])]
        for name, given in calls + [("drop", [x]) for x in range(59, -1, -1)]:
            machine = Machine(code, plain, version, name, given, 8000)
            while not machine.is_over():
                deepest = max(deepest, machine.standing()[2])
                machine.step()
            self.assertEqual(machine.outcome()[0], "gave")
            version = machine.end()
        self.assertLessEqual(deepest, 30)

    def test_folded(self):
        program = folded(PROGRAM, 4)
        rng, heap = random.Random(3), EMPTY
        for _ in range(80):
            name, given = self.drawn(rng, range(12))
            told = run(program, heap, 4, name, given, 8000)
            self.assertEqual(told[:2], run(PROGRAM, heap, 4, name, given, 8000)[:2])
            heap = after(heap, told[1], 4)


class TestOverKeepers(Check):
    """Calls at all versions of a tree of versions, each against a plain set."""

    def tree(self, keepers, seed, row=False, turns=40):
        rng, code = random.Random(seed), compiled(PROGRAM, 4)
        sets, heaps = [frozenset()], [EMPTY]
        for _ in range(turns):
            version = len(sets) - 1 if row or rng.random() < 0.6 else rng.randrange(len(sets))
            name, given = self.drawn(rng, range(-7, 8))
            value, behind = wanted(sets[version], name, given)
            deed = run(PROGRAM, heaps[version], 4, name, given, 8000)[1]
            for keeper in keepers:
                machine = Machine(code, keeper, version, name, given, 8000)
                machine.turn(9000)
                self.assertEqual(machine.outcome()[:3], ("gave", value, deed))
                self.assertEqual(machine.end(), len(sets))
            sets.append(behind)
            heaps.append(plain_copy(heaps[version], deed))
            self.look(heaps[-1], behind)
        # Whatever was done at other versions, each still has its set.
        for version, keys in enumerate(sets):
            for keeper in keepers:
                if row and version < turns:
                    continue
                for name, given in [("many", []), ("above", [rng.randrange(-8, 8)]), ("has", [rng.randrange(-8, 8)])]:
                    machine = Machine(code, keeper, version, name, given, 8000)
                    machine.turn(9000)
                    self.assertEqual(machine.outcome()[1:3], (wanted(keys, name, given)[0], []))
        return heaps

    def test_all_versions(self):
        for seed in range(8):
            keepers = [Plain(4), Fat(4), Cells(4, 10, 1), Kept(4)]
            heaps = self.tree(keepers, seed)
            for version, heap in enumerate(heaps):
                for keeper in keepers[:3]:
                    self.assertEqual(keeper.heap(version), heap)
                self.assertEqual(keepers[3].look(version), plain_seen(heap))

    def test_newest_version_of_a_copier(self):
        for seed in range(8):
            copier = Copier(4, 1 + seed % 4)
            heaps = self.tree([copier, Kept(4)], seed, row=True)
            self.assertEqual(copier.heap(len(heaps) - 1), heaps[-1])

    def test_over_versions_that_are_dropped(self):
        """The newest version alone stands: what the calls need is there all the same."""
        kept, code, rng = Kept(4), compiled(PROGRAM, 4), random.Random(11)
        keys, version = frozenset(), 0
        for _ in range(120):
            name, given = self.drawn(rng, range(20))
            machine = Machine(code, kept, version, name, given, 8000)
            machine.turn(9000)
            value, keys = wanted(keys, name, given)
            self.assertEqual(machine.outcome()[1], value)
            fresh = machine.end()
            kept.drop(version)
            version = fresh
            self.assertEqual(len(kept.reaches(version)), 1 + len(keys))
            self.assertEqual(kept.count(), 4 * (1 + len(keys)))


if __name__ == "__main__":
    unittest.main()
