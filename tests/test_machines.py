"""Points [63] and [64]: keepers, machines over them, and what a run leans on."""

import copy
import random
import unittest

from asifcopied.cells import Cells
from asifcopied.coding import compiled, heights
from asifcopied.copying import Copier
from asifcopied.errors import BadCode, BadDeed, BadGiven, BadMost, BadName, BadPlace, BadVersion, BadWide, NotOver
from asifcopied.fats import Fat
from asifcopied.machines import Machine, Plain

from plain import drawn_deed, not_numbers, odd_values, plain_copy
from plain_programs import drawn_given, drawn_program, plain_run
from test_coding import CODE, HALT, ONE, ROOT, UP, X, one

MANY = 10 ** 6


def keepers(wide):
    return [Plain(wide), Fat(wide), Cells(wide, 4 + 2 * wide, MANY)]


class Spy:
    """A keeper that tells which fields are read, and makes no version by itself."""

    def __init__(self, keeper):
        self.keeper = keeper
        self.wide = keeper.wide
        self.reads = []
        self.deeds = []

    def many(self, version):
        return self.keeper.many(version)

    def read(self, version, record, field):
        self.reads.append((version, record, field))
        return self.keeper.read(version, record, field)

    def deed(self, version, changes):
        self.deeds.append((version, changes))
        return self.keeper.deed(version, changes)


def grown(rng, wide, versions=6):
    """All keepers with the same versions, and the heaps of these."""
    told, heaps = keepers(wide), [((None,) * wide,)]
    for _ in range(versions):
        parent = rng.randrange(len(heaps))
        changes = drawn_deed(rng, heaps[parent], wide, records=6)
        heaps.append(plain_copy(heaps[parent], changes))
        for keeper in told:
            keeper.deed(parent, changes)
    return told, heaps


class TestPlain(unittest.TestCase):
    def test_copies(self):
        for seed in range(10):
            rng = random.Random(seed)
            wide = 1 + seed % 3
            (plain, _, _), heaps = grown(rng, wide, 12)
            self.assertEqual(plain.wide, wide)
            for version, heap in enumerate(heaps):
                self.assertEqual(plain.heap(version), heap)
                self.assertEqual(plain.many(version), len(heap))
                for record, row in enumerate(heap):
                    self.assertEqual(tuple(plain.read(version, record, field) for field in range(wide)), row)

    def test_errors(self):
        for bad in not_numbers(1, 6):
            with self.assertRaises(BadWide):
                Plain(bad)
        plain = Plain(wide=2)
        self.assertEqual(plain.deed(version=0, changes=[("make", (1, 2))]), 1)
        for bad in not_numbers(0, 1):
            for call in [lambda: plain.many(bad), lambda: plain.heap(bad), lambda: plain.read(bad, None, None),
                         lambda: plain.deed(bad, None)]:
                with self.assertRaises(BadVersion):
                    call()
        for bad in not_numbers(0, 1):
            for call in [lambda: plain.read(1, bad, 0), lambda: plain.read(1, 0, bad)]:
                with self.assertRaises(BadPlace):
                    call()
        self.assertEqual((plain.read(version=1, record=1, field=1), plain.read(0, 0, 0)), (2, None))
        with self.assertRaises(BadPlace):
            plain.read(0, 1, 0)
        for changes, at in [(None, None), ([("set", 0, 0, 1), ("set", 2, 0, 1)], 1), ([None], 0), ({}, None)]:
            with self.assertRaises(BadDeed) as caught:
                plain.deed(1, changes)
            self.assertEqual(caught.exception.at, at)
        with self.assertRaises(BadVersion):
            plain.heap(2)

    def test_what_is_passed_may_be_changed(self):
        plain, changes = Plain(1), [("set", 0, 0, 1)]
        plain.deed(0, changes)
        self.assertEqual(changes, [("set", 0, 0, 1)])
        changes.append(("set", 0, 0, 2))
        self.assertEqual(plain.heap(1), ((1,),))
        for value in odd_values():
            self.assertFalse(plain == value)


class TestMachine(unittest.TestCase):
    def test_outcome_over_each_keeper(self):
        words = {}
        for seed in range(500):
            rng = random.Random(seed)
            wide = 1 + seed % 3
            told, heaps = grown(rng, wide)
            program = drawn_program(rng, wide)
            code = compiled(program, wide)
            for _ in range(2):
                version = rng.randrange(len(heaps))
                name, given = drawn_given(rng, program, heaps[version])
                plain = plain_run(program, heaps[version], wide, name, given, 250)
                for keeper in told:
                    machine = Machine(code, keeper, version, name, given, 250)
                    machine.turn(1000)
                    self.assertEqual(machine.outcome(), plain)
                    self.assertTrue(machine.is_over())
                words[plain[1] if plain[0] == "stopped" else "gave"] = True
        self.assertEqual(set(words), {"gave", "steps", "kind", "great", "deep"})

    def test_over_a_copier(self):
        for seed in range(40):
            rng = random.Random(seed)
            wide, copier, heap = 1 + seed % 3, Copier(1 + seed % 3, seed % 4), ((None,) * (1 + seed % 3),)
            for version in range(5):
                changes = drawn_deed(rng, heap, wide, records=6)
                heap = plain_copy(heap, changes)
                copier.deed(version, changes)
            program = drawn_program(rng, wide)
            name, given = drawn_given(rng, program, heap)
            machine = Machine(compiled(program, wide), copier, 5, name, given, 250)
            machine.turn(1000)
            told = plain_run(program, heap, wide, name, given, 250)
            self.assertEqual(machine.outcome(), told)
            if told[0] == "gave":
                self.assertEqual(machine.end(), 6)
                self.assertEqual(copier.heap(6), plain_copy(heap, told[2]))

    def test_standing_tells_the_heights(self):
        for seed in range(80):
            rng = random.Random(seed)
            wide = 1 + seed % 3
            (plain, _, _), heaps = grown(rng, wide)
            program = drawn_program(rng, wide)
            code = compiled(program, wide)
            told = heights(code, wide)
            name, given = drawn_given(rng, program, heaps[3])
            machine = Machine(code, plain, 3, name, given, 200)
            at = [function[0] for function in code[0]].index(name)
            self.assertEqual(machine.standing(), (code[0][at][1], 0, 1))
            calls = 1
            while not machine.is_over():
                place, height, open_calls = machine.standing()
                self.assertEqual((height, open_calls), (told[place], calls))
                word = code[1][place][0]
                calls += (word == "call") - (word == "give")
                self.assertIsNone(machine.outcome())
                self.assertIsNone(machine.step())
            self.assertIsNone(machine.standing())
            before = machine.outcome()
            machine.step()
            machine.turn(5)
            self.assertEqual(machine.outcome(), before)

    def test_standing_by_hand(self):
        machine = Machine(code=CODE, keeper=Plain(2), version=0, name="f", given=[1], most=100)
        told = [(0, 0, 1), (1, 1, 1), (2, 2, 1), (4, 0, 2), (5, 1, 2), (6, 0, 2), (4, 0, 2)]
        for standing in told:
            self.assertEqual(machine.standing(), standing)
            machine.step()
        machine = Machine(CODE, Plain(2), 0, "f", [None], 100)
        machine.turn(many=6)
        self.assertEqual(machine.standing(), (8, 1, 2))

    def test_variables_are_none_at_first(self):
        code = one(("load", 2), ("give",), params=1, places=3)
        machine = Machine(code, Plain(1), 0, "f", [7], 9)
        machine.turn(2)
        self.assertEqual(machine.outcome(), ("gave", None, [], 2))

    def test_over_when_the_last_give_is_done(self):
        machine = Machine(one(*HALT), Plain(1), 0, "f", [], 2)
        self.assertEqual((machine.is_over(), machine.outcome(), machine.standing()), (False, None, (0, 0, 1)))
        machine.step()
        self.assertFalse(machine.is_over())
        machine.step()
        self.assertTrue(machine.is_over())
        self.assertEqual(machine.outcome(), ("gave", None, [], 2))
        # Behind most steps it is not over till one more is tried.
        machine = Machine(one(*HALT), Plain(1), 0, "f", [], 1)
        machine.step()
        self.assertEqual((machine.is_over(), machine.standing()), (False, (1, 1, 1)))
        machine.turn(0)
        self.assertFalse(machine.is_over())
        machine.turn(1)
        self.assertEqual((machine.is_over(), machine.outcome()), (True, ("stopped", "steps", 1)))
        machine = Machine(one(*HALT), Plain(1), 0, "f", [], 0)
        self.assertFalse(machine.is_over())
        machine.step()
        self.assertEqual(machine.outcome(), ("stopped", "steps", 0))

    def test_code_that_no_program_has(self):
        loop = one(("push", 1), ("drop",), ("jump", 0))
        machine = Machine(loop, Plain(1), 0, "f", [], 10 ** 17)
        machine.turn(1000)
        self.assertEqual((machine.is_over(), machine.standing()), (False, (1, 1, 1)))
        deep = (("f", 0, 0, 0),), (("call", 0), ("give",))
        machine = Machine(deep, Plain(1), 0, "f", [], 1000)
        machine.turn(39)
        self.assertEqual(machine.standing(), (0, 0, 40))
        machine.step()
        self.assertEqual(machine.outcome(), ("stopped", "deep", 39))
        pile = one(("push", 1), ("push", 2), ("push", 3), ("make",), ("drop",), ("give",))
        machine = Machine(pile, Plain(2), 0, "f", [], 9)
        machine.turn(9)
        self.assertEqual(machine.outcome(), ("gave", 1, [("make", (2, 3))], 6))

    def test_woven(self):
        """Several machines step in any sequence, while versions are made beside and behind theirs."""
        for seed in range(40):
            rng = random.Random(seed)
            wide = 1 + seed % 3
            for keeper in grown(rng, wide)[0]:
                heaps = [keeper.heap(version) for version in range(7)]
                machines, wanted = [], []
                for _ in range(4):
                    program = drawn_program(rng, wide)
                    version = rng.randrange(7)
                    name, given = drawn_given(rng, program, heaps[version])
                    wanted.append(plain_run(program, heaps[version], wide, name, given, 60))
                    machines.append(Machine(compiled(program, wide), keeper, version, name, given, 60))
                while not all(machine.is_over() for machine in machines):
                    rng.choice(machines).turn(rng.randrange(4))
                    if rng.random() < 0.1:
                        parent = rng.randrange(len(heaps))
                        keeper.deed(parent, drawn_deed(rng, heaps[parent], wide, records=6) if parent < 7 else [])
                self.assertEqual([machine.outcome() for machine in machines], wanted)

    def test_end(self):
        for keeper in keepers(2):
            machine = Machine(compiled(UP, 2), keeper, 0, "up", [5], 14)
            machine.turn(13)
            with self.assertRaises(NotOver):
                machine.end()
            machine.step()
            self.assertEqual(machine.outcome(), ("gave", 5, [("make", (None, 5)), ("set", 0, 0, ("to", 1))], 14))
            self.assertEqual((machine.end(), machine.end()), (1, 2))
            self.assertEqual(keeper.heap(1), ((("to", 1), None), (None, 5)))
            self.assertEqual((keeper.heap(2), keeper.heap(0)), (keeper.heap(1), ((None, None),)))
            machine = Machine(compiled(UP, 2), keeper, 2, "up", [None], 99)
            machine.turn(99)
            self.assertEqual(machine.outcome(), ("stopped", "kind", 9))
            self.assertIsNone(machine.end())
            with self.assertRaises(BadVersion):
                keeper.heap(3)
        copier = Copier(2, 1)
        machine = Machine(compiled(UP, 2), copier, 0, "up", [5], 14)
        machine.turn(14)
        machine.end()
        with self.assertRaises(ValueError) as caught:
            machine.end()
        self.assertEqual(caught.exception.newest, 1)

    def test_no_version_till_it_is_told_to(self):
        spy = Spy(Plain(2))
        machine = Machine(compiled(UP, 2), spy, 0, "up", [5], 99)
        machine.turn(99)
        self.assertEqual((spy.deeds, spy.reads), ([], [(0, 0, 0)]))
        machine.outcome()[2].clear()
        machine.end()
        self.assertEqual(spy.deeds, [(0, [("make", (None, 5)), ("set", 0, 0, ("to", 1))])])
        spy.deeds[0][1].clear()
        self.assertEqual(len(machine.outcome()[2]), 2)

    def test_what_is_passed_may_be_changed(self):
        given = [5]
        machine = Machine(compiled(UP, 2), Plain(2), 0, "up", given, 99)
        given[0] = 6
        machine.turn(99)
        self.assertEqual(machine.outcome()[1], 5)
        kept = copy.deepcopy(CODE)
        Machine(CODE, Plain(2), 0, "f", (1,), 99).turn(50)
        self.assertEqual(CODE, kept)
        for value in odd_values():
            self.assertFalse(machine == value)

    def test_leaned(self):
        program = (("f", (), (("set", ROOT, 1, ONE), ("do", ("get", ROOT, 1)), ("do", ("get", ("make", (ONE, ONE)), 0)),
                              ("do", ("get", ("get", ROOT, 0), 1)), ("do", ("get", ("get", ROOT, 0), 0)),
                              ("set", ("get", ROOT, 0), 0, ONE), ("do", ("get", ("get", ROOT, 0), 0)))),)
        plain = Plain(2)
        plain.deed(0, [("make", (3, 4)), ("set", 0, 0, ("to", 1))])
        machine = Machine(compiled(program, 2), plain, 1, "f", [], 99)
        self.assertEqual(machine.leaned(), ())
        machine.turn(13)
        self.assertEqual(machine.leaned(), ((0, 0),))
        machine.turn(99)
        self.assertEqual(machine.outcome()[0], "gave")
        self.assertEqual(machine.leaned(), ((0, 0), (1, 0), (1, 1)))

    def test_leaned_is_just_what_was_read(self):
        for seed in range(80):
            rng = random.Random(seed)
            wide = 1 + seed % 3
            (plain, _, _), heaps = grown(rng, wide)
            program = drawn_program(rng, wide)
            version = rng.randrange(7)
            name, given = drawn_given(rng, program, heaps[version])
            spy = Spy(plain)
            machine = Machine(compiled(program, wide), spy, version, name, given, 200)
            machine.turn(500)
            leaned = machine.leaned()
            self.assertEqual(leaned, tuple(sorted({read[1:] for read in spy.reads})))
            self.assertTrue(all(read[0] == version for read in spy.reads))
            # Another heap with as many records that reads alike at what the run leans on.
            other = Plain(wide)
            other.deed(0, [("make", (None,) * wide)] * (len(heaps[version]) - 1))
            changes = [("set", record, field, rng.choice([None, 4, ("to", 0)]))
                       for record in range(len(heaps[version])) for field in range(wide)]
            changes += [("set", record, field, heaps[version][record][field]) for record, field in leaned]
            other.deed(1, changes)
            again = Machine(compiled(program, wide), other, 2, name, given, 200)
            again.turn(500)
            self.assertEqual((again.outcome(), again.leaned()), (machine.outcome(), leaned))

    def test_errors_in_their_sequence(self):
        faulty = (CODE[0], CODE[1][:-1])
        for keeper in keepers(2) + [Copier(2, 1)]:
            keeper.deed(0, [("make", (None, None))])
            for bad in odd_values() + [faulty, one(("get", 2), ("give",)), one(("push", 1), ("get", 2), ("give",))]:
                with self.assertRaises(BadCode):
                    Machine(bad, keeper, None, None, None, None)
            for bad in not_numbers(0, 1):
                with self.assertRaises(BadVersion):
                    Machine(CODE, keeper, bad, None, None, None)
            for bad in odd_values() + ["h", "F", "", ("f",), ["f"]]:
                with self.assertRaises(BadName):
                    Machine(CODE, keeper, 1, bad, None, None)
            for bad in [None, [], [1, 2], 5, "x", {0: 1}, [True], ["1"], [("to", 2)], [("to", -1)], [["to", 0]], [10 ** 18]]:
                with self.assertRaises(BadGiven):
                    Machine(CODE, keeper, 1, "f", bad, None)
            with self.assertRaises(BadGiven):
                Machine(CODE, keeper, 0, "f", [("to", 1)], None)
            for bad in not_numbers(0):
                with self.assertRaises(BadMost):
                    Machine(CODE, keeper, 1, "f", [("to", 1)], bad)
                with self.assertRaises(BadMost):
                    Machine(CODE, keeper, 1, "f", [("to", 1)], 5).turn(bad)


if __name__ == "__main__":
    unittest.main()
