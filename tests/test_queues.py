"""Point [70]: a queue in two rows, and a row with two ends."""

import random
import unittest

from asifcopied.cells import Cells
from asifcopied.coding import compiled
from asifcopied.copying import Copier
from asifcopied.fats import Fat
from asifcopied.folding import folded
from asifcopied.machines import Machine, Plain
from asifcopied.meanings import run
from asifcopied.programs import faults, is_program
from asifcopied.queues import ends_program, queue_program

from plain import plain_pointed

# The names of the functions, and for each what it does to a list.
QUEUE = {"put": lambda row, x: (None, row + [x]), "take": lambda row: (row[0], row[1:]) if row else (None, []),
         "size": lambda row: (len(row), row)}
ENDS = {"first": lambda row, x: (None, [x] + row), "last": lambda row, x: (None, row + [x]),
        "unfirst": lambda row: (row[0], row[1:]) if row else (None, []),
        "unlast": lambda row: (row[-1], row[:-1]) if row else (None, []),
        "turn": lambda row: (None, row[::-1]), "size": lambda row: (len(row), row)}


def rows_of(heap, field, follow):
    told, here = [], heap[0][field]
    while here is not None:
        told.append(here[1])
        here = heap[here[1]][follow]
    return told


def queue_items(heap):
    front, back = rows_of(heap, 0, 1), rows_of(heap, 1, 1)
    return [heap[record][0] for record in front + back[::-1]]


class TestPrograms(unittest.TestCase):
    def test_programs(self):
        for program, wide, calls in [(queue_program(), 2, QUEUE), (ends_program(), 3, ENDS)]:
            self.assertTrue(is_program(program, wide))
            self.assertEqual(faults(program, wide), [])
            params = {name: len(params) for name, params, _ in program}
            for name in calls:
                self.assertEqual(params[name], 1 if name in ("put", "first", "last") else 0)
        self.assertFalse(is_program(ends_program(), 2))
        self.assertEqual((queue_program(), ends_program()), (queue_program(), ends_program()))


class Check(unittest.TestCase):
    """Calls at all versions of a tree of versions, each against a plain list."""

    def call(self, keeper, code, version, name, given, heap):
        machine = Machine(code, keeper, version, name, given, 8000)
        machine.turn(9000)
        kind, value, deed, _ = machine.outcome()
        self.assertEqual(kind, "gave")
        self.assertEqual((value, deed), run(self.program, heap, self.wide, name, given, 8000)[:2])
        if name == "size":
            self.assertEqual(deed, [])
        return value, machine.end()

    def drawn(self, rng, turns):
        """Draw a call: its name and what is given."""
        name = rng.choice(turns)
        return name, [rng.choice([None, 0, 1, 7, -3])] if name in ("put", "first", "last") else []

    def tree(self, keeper, seed, row=False, turns=None):
        rng = random.Random(seed)
        code = compiled(self.program, self.wide)
        rows, heaps = [[]], [((None,) * self.wide,)]
        for _ in range(40):
            version = len(rows) - 1 if row or rng.random() < 0.6 else rng.randrange(len(rows))
            name, given = self.drawn(rng, turns or self.turns)
            value, fresh = self.call(keeper, code, version, name, given, heaps[version])
            wanted, behind = self.calls[name](rows[version], *given)
            if name != "turn":
                self.assertEqual(value, wanted)
            self.assertEqual(fresh, len(rows))
            rows.append(behind)
            heaps.append(keeper.heap(fresh))
            self.check_heap(heaps[-1], behind)
        for version, heap in enumerate(heaps):
            self.assertEqual(keeper.heap(version), heap)
            self.check_heap(heap, rows[version])

    def all_keepers(self):
        for seed in range(12):
            for keeper in [Plain(self.wide), Fat(self.wide), Cells(self.wide, 2 * (self.most + self.wide), self.most)]:
                self.tree(keeper, seed)
            self.tree(Copier(self.wide, self.most), seed, row=True)


class TestQueue(Check):
    program, wide, calls, most = queue_program(), 2, QUEUE, 1
    turns = ["put", "put", "put", "take", "take", "size"]

    def check_heap(self, heap, row):
        self.assertEqual(queue_items(heap), row)
        self.assertLessEqual(max(plain_pointed(heap)), 1)

    def test_over_each_keeper(self):
        self.all_keepers()

    def test_sixty_items(self):
        code, plain, version = compiled(self.program, 2), Plain(2), 0
        for item in range(60):
            _, version = self.call(plain, code, version, "put", [item], plain.heap(version))
        for item in range(60):
            value, _ = self.call(plain, code, version, "size", [], plain.heap(version))
            self.assertEqual(value, 60 - item)
            value, version = self.call(plain, code, version, "take", [], plain.heap(version))
            self.assertEqual(value, item)
        value, version = self.call(plain, code, version, "take", [], plain.heap(version))
        self.assertIsNone(value)

    def test_folded(self):
        self.program = folded(queue_program(), 2)
        self.tree(Plain(2), 99)


class TestEnds(Check):
    program, wide, calls, most = ends_program(), 3, ENDS, 2
    turns = ["first", "first", "last", "last", "unfirst", "unlast", "turn", "size"]

    def check_heap(self, heap, row):
        """The words of the document: links both ways, ends and number at the root."""
        there, back = rows_of(heap, 0, 2), rows_of(heap, 1, 1)
        self.assertEqual(there, back[::-1])
        self.assertEqual([heap[record][0] for record in there], row)
        self.assertIn(heap[0][2], [len(row)] if row else [None, 0])
        for ends, field in [(there[:1], 1), (there[-1:], 2)]:
            for record in ends:
                self.assertIsNone(heap[record][field])
        self.assertLessEqual(max(plain_pointed(heap)), 2)

    def test_over_each_keeper(self):
        self.all_keepers()

    def test_taken_at_either_end(self):
        for turns in [["first", "unlast"], ["last", "unfirst"], ["last", "unlast", "turn"], ["turn", "unfirst"], ["first", "unfirst"]]:
            for seed in range(4):
                self.tree(Plain(3), seed, turns=turns)

    def test_sixty_items_behind_many_turns(self):
        code, plain, version, row = compiled(self.program, 3), Plain(3), 0, []
        for item in range(60):
            name = ("first", "last")[item % 2]
            _, version = self.call(plain, code, version, name, [item], plain.heap(version))
            row = ENDS[name](row, item)[1]
        for turn in range(61):
            _, version = self.call(plain, code, version, "turn", [], plain.heap(version))
            row.reverse()
            self.check_heap(plain.heap(version), row)
        while row:
            name = ("unfirst", "unlast")[len(row) % 2]
            value, version = self.call(plain, code, version, name, [], plain.heap(version))
            wanted, row = ENDS[name](row)
            self.assertEqual(value, wanted)
            self.check_heap(plain.heap(version), row)
            self.assertEqual(self.call(plain, code, version, "size", [], plain.heap(version))[0], len(row))

    def test_folded(self):
        self.program = folded(ends_program(), 3)
        self.tree(Plain(3), 99)


if __name__ == "__main__":
    unittest.main()
