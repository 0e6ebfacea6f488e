"""Points [82] and [83]: a keeper that gives back what no standing version needs."""

import copy
import random
import unittest

from asifcopied.coding import compiled
from asifcopied.dropping import Kept, is_standing, kept_of, least_rows
from asifcopied.errors import BadDeed, BadField, BadVersion, BadWide, NoRecord
from asifcopied.machines import Machine

from plain import drawn_deed, not_numbers, odd_values, plain_copy, plain_line, plain_seen
from plain_dropping import parents_in, plain_names, plain_reached, plain_rows, size
from plain_programs import drawn_program, plain_run


def spoken(change):
    values = change[1] if change[0] == "make" else (change[3],)
    told = [value[1] for value in values if isinstance(value, tuple)]
    return told + ([change[1]] if change[0] == "set" else [])


def bad_place(heap, deed):
    """The place of the first change that speaks of a record that the root does not lead to, and that none makes."""
    reached = plain_reached(heap)
    for at, change in enumerate(deed):
        if any(record < len(heap) and record not in reached for record in spoken(change)):
            return at
    return None


class Model:
    """The plain heaps of all versions that were ever made, and which stand."""

    def __init__(self, wide):
        self.wide = wide
        self.story = []
        self.heaps = [((None,) * wide,)]
        self.standing = [0]

    def deed(self, version, changes):
        self.story.append((version, changes))
        self.heaps.append(plain_copy(self.heaps[version], changes))
        self.standing.append(len(self.story))

    def reads(self):
        return sum(len(plain_reached(self.heaps[version])) for version in self.standing)


class Check(unittest.TestCase):
    def same(self, kept, model):
        """Everything that can be asked, against the copies."""
        self.assertEqual(kept.standing(), tuple(model.standing))
        self.assertEqual(kept.total(), len(model.heaps))
        for version in model.standing:
            heap = model.heaps[version]
            reached = plain_reached(heap)
            self.assertEqual(kept.many(version), len(heap))
            self.assertEqual(kept.reaches(version), tuple(reached))
            self.assertEqual(kept.look(version), plain_seen(heap))
            for record in range(len(heap) + 1):
                if record in reached:
                    told = tuple(kept.read(version, record, field) for field in range(model.wide))
                    self.assertEqual(told, heap[record])
                else:
                    with self.assertRaises(NoRecord) as caught:
                        kept.read(version, record, 0)
                    self.assertEqual(caught.exception.record, record)
        rows = plain_rows(model.story, model.wide, model.standing)
        self.assertEqual(kept.kept_rows(), rows)
        self.assertEqual(kept.count(), sum(len(entries) for _, _, entries in rows))
        self.assertLessEqual(size(kept.state()), 50 * (1 + len(model.standing) + model.reads() + kept.count()))

    def turn(self, rng, kept, model, drops):
        """A deed, perhaps one that is refused, or a drop."""
        if not model.standing:
            return
        version = rng.choice(model.standing)
        if rng.random() < drops:
            kept.drop(version)
            model.standing.remove(version)
            return
        changes = drawn_deed(rng, model.heaps[version], model.wide)
        at = bad_place(model.heaps[version], changes)
        if at is not None:
            with self.assertRaises(BadDeed) as caught:
                kept.deed(version, changes)
            self.assertEqual(caught.exception.at, at)
            self.refused = getattr(self, "refused", 0) + 1
        else:
            passed = copy.deepcopy(changes)
            self.assertEqual(kept.deed(version, passed), len(model.heaps))
            self.assertEqual(passed, changes)
            passed.clear()
            model.deed(version, changes)


class TestKept(Check):
    def test_against_copies(self):
        for seed in range(60):
            rng = random.Random(seed)
            wide = 1 + seed % 3
            kept, model = Kept(wide), Model(wide)
            self.assertEqual(kept.wide, wide)
            for _ in range(22):
                self.turn(rng, kept, model, rng.choice([0.1, 0.4]))
                self.same(kept, model)
        self.assertGreater(self.refused, 50)

    def test_least_rows_of_the_package(self):
        for seed in range(20):
            rng = random.Random(seed)
            kept, model = Kept(2), Model(2)
            for _ in range(30):
                self.turn(rng, kept, model, 0.3)
                self.assertTrue(is_standing(kept.standing(), kept.total()))
                self.assertEqual(kept.kept_rows(), least_rows(model.story, 2, kept.standing()))

    def test_the_last_version(self):
        kept = Kept(wide=2)
        kept.deed(0, [("make", (1, None)), ("set", 0, 0, ("to", 1))])
        kept.drop(version=0)
        self.assertEqual((kept.standing(), kept.count()), ((1,), 4))
        self.assertIsNone(kept.drop(1))
        self.assertEqual((kept.standing(), kept.total(), kept.kept_rows(), kept.count()), ((), 2, (), 0))
        self.assertLessEqual(size(kept.state()), 50)
        again = kept_of(kept.state())
        for told in (kept, again):
            for version in (0, 1, 2):
                with self.assertRaises(BadVersion):
                    told.deed(version, [])
            self.assertEqual((told.standing(), told.total()), ((), 2))

    def test_by_hand(self):
        kept = Kept(1)
        kept.deed(version=0, changes=[("make", (5,)), ("set", 0, 0, ("to", 1))])
        kept.deed(1, ((("set", 1, 0, 6)),))
        kept.deed(1, [])
        self.assertEqual(kept.kept_rows(), (((0, 0), 0, ((0, None), (1, ("to", 1)))), ((1, 0), 0, ((1, 5), (2, 6)))))
        kept.drop(1)
        self.assertEqual(kept.kept_rows(), (((0, 0), 0, ((0, None), (3, ("to", 1)))), ((1, 0), 0, ((3, 5), (2, 6)))))
        kept.drop(3)
        self.assertEqual(kept.kept_rows(), (((0, 0), 0, ((0, None), (2, ("to", 1)))), ((1, 0), 0, ((2, 6),))))
        self.assertEqual((kept.many(2), kept.reaches(2), kept.read(2, 1, 0)), (2, (0, 1), 6))
        self.assertEqual(kept.deed(2, []), 4)

    def test_prices(self):
        """A drop takes 0, 1 or 2 entries of each field that the version read; a deed puts as many as are told."""
        for seed in range(40):
            rng = random.Random(seed)
            wide = 1 + seed % 3
            kept, model = Kept(wide), Model(wide)
            for _ in range(25):
                if not model.standing:
                    break
                before = {row[:2]: row[2] for row in kept.kept_rows()}
                made, standing = len(model.heaps), list(model.standing)
                self.turn(rng, kept, model, 0.35)
                behind = {row[:2]: row[2] for row in kept.kept_rows()}
                if len(model.heaps) > made:
                    self.check_deed(model, before, behind)
                elif len(model.standing) < len(standing):
                    dropped = [version for version in standing if version not in model.standing][0]
                    names = plain_names(model.story, wide)[dropped]
                    read = [names[record] for record in plain_reached(model.heaps[dropped])]
                    for key in before:
                        gone = len(before[key]) - len(behind.get(key, ()))
                        self.assertIn(gone, (0, 1, 2))
                        self.assertTrue(key[0] in read or before[key] == behind[key])
                    self.assertEqual(set(behind) - set(before), set())

    def check_deed(self, model, before, behind):
        parent, _ = model.story[-1]
        fresh, elder, heap = len(model.story), model.heaps[parent], model.heaps[-1]
        names = plain_names(model.story, model.wide)[fresh]
        for name, field in behind:
            if name[0] == fresh:
                self.assertEqual(len(behind[name, field]), 1)
                self.assertIn(names.index(name), plain_reached(heap))
                continue
            more = len(behind[name, field]) - len(before[name, field])
            record = names.index(name) if name in names else None
            if record is None or heap[record][field] == elder[record][field]:
                self.assertEqual(behind[name, field], before[name, field])
            self.assertIn(more, (0, 1, 2))
        self.assertEqual(set(before) - set(behind), set())

    def test_errors(self):
        for bad in not_numbers(1, 6):
            with self.assertRaises(BadWide):
                Kept(bad)
        kept = Kept(2)
        kept.deed(0, [("make", (1, None)), ("make", (2, ("to", 1))), ("set", 0, 0, ("to", 1))])
        kept.deed(0, [])
        kept.drop(2)
        before = kept.state()
        for bad in not_numbers(0, 2) + [2, "0", (0,), True]:
            for call in [lambda: kept.many(bad), lambda: kept.reaches(bad), lambda: kept.read(bad, None, None),
                         lambda: kept.look(bad), lambda: kept.deed(bad, None), lambda: kept.drop(bad)]:
                with self.assertRaises(BadVersion):
                    call()
        for bad in not_numbers(0, 1) + [2]:
            with self.assertRaises(NoRecord) as caught:
                kept.read(1, bad, None)
            self.assertIs(caught.exception.record, bad)
        for bad in not_numbers(0, 1):
            with self.assertRaises(BadField):
                kept.read(1, 1, bad)
        self.assertEqual(kept.read(version=1, record=1, field=0), 1)
        self.assertEqual(kept.state(), before)

    def test_refused_deeds(self):
        kept = Kept(2)
        kept.deed(0, [("make", (1, None)), ("make", (2, ("to", 1))), ("set", 0, 0, ("to", 1))])
        before = (kept.state(), kept.kept_rows(), kept.total())
        # Record 2 is there, and led to from nowhere.
        refused = [([("set", 2, 0, 1)], 0), ([("set", 0, 1, ("to", 2))], 0), ([("make", (("to", 2), None))], 0),
                   ([("make", (("to", 3), None)), ("set", 3, 1, ("to", 2))], 1), ([("set", 0, 1, ("to", 3))], 0),
                   ([("make", (("to", 4), None))], 0), ([("set", 0, 1, 5), ("set", 2, 0, 1)], 1), (None, None), ({}, None), ("ab", None),
                   ([("make", (1, 2)), None], 1), ([("set", 0, 2, 1)], 0), ([("set", 0, 0, True)], 0), (5, None),
                   ([("set", 1, 0, ("to", 0)), ("make", (None, None)), ("set", 3, 0, ("to", 3)), ("set", 3, 0, ("to", 2))], 3),
                   ([("make", (None, None)), ("set", 4, 0, 1)], 1), ([("set", 0, 0, 1), ("set", 3, 0, 1)], 1), ([("make", (1,))], 0), ([["set", 0, 0, 1]], 0), ([("set", 2, 0, True)], 0), ([("make", (("to", 1), ("to", 2)))], 0)]
        for changes, at in refused:
            with self.assertRaises(BadDeed) as caught:
                kept.deed(1, changes)
            self.assertEqual(caught.exception.at, at, changes)
            self.assertEqual((kept.state(), kept.kept_rows(), kept.total()), before)
        # A pointer that is led away within the deed was one to a record that the root led to.
        fine = [("set", 0, 0, None), ("set", 1, 1, ("to", 1)), ("make", (("to", 1), ("to", 3))), ("set", 0, 1, ("to", 3))]
        self.assertEqual(kept.deed(1, fine), 2)
        self.assertEqual(kept.reaches(2), (0, 1, 3))
        self.assertEqual(kept.deed(2, [("set", 0, 1, None)]), 3)
        with self.assertRaises(BadDeed):
            kept.deed(3, [("set", 1, 0, 0)])

    def test_equal_to_nothing(self):
        for value in odd_values():
            self.assertFalse(Kept(1) == value)


class TestState(Check):
    def is_content(self, value):
        if isinstance(value, tuple):
            return all(map(self.is_content, value))
        return value is None or isinstance(value, str) or type(value) is int and abs(value) < 10 ** 18

    def test_goes_on_alike(self):
        for seed in range(30):
            rng = random.Random(seed)
            wide = 1 + seed % 3
            kept, model = Kept(wide), Model(wide)
            for _ in range(25):
                self.turn(rng, kept, model, 0.3)
                state = kept.state()
                self.assertTrue(isinstance(state, tuple) and self.is_content(state))
                again = kept_of(state=state)
                self.assertEqual(again.wide, wide)
                self.assertEqual(again.state(), state)
                self.same(again, model)
                if rng.random() < 0.5:
                    other = copy.deepcopy(model)
                    self.turn(rng, again, other, 0.5)
                    self.same(again, other)
                    self.assertEqual(kept.state(), state)
                    self.same(kept, model)
                if rng.random() < 0.3:
                    kept = kept_of(state)

    def test_one_state_for_each_sequence(self):
        """The same versions made, the same ones standing: whatever was dropped when, one state."""
        for seed in range(30):
            rng = random.Random(seed)
            wide = 1 + seed % 3
            kept, model = Kept(wide), Model(wide)
            for _ in range(25):
                self.turn(rng, kept, model, 0.3)
            # All deeds first, then the drops in another sequence.
            other = Kept(wide)
            for version, changes in model.story:
                other.deed(version, changes)
            gone = [version for version in range(other.total()) if version not in model.standing]
            rng.shuffle(gone)
            for version in gone:
                other.drop(version)
            self.assertEqual(other.state(), kept.state())

    def test_nothing_else_is_held(self):
        """Many versions and records, made and dropped: the state is as small as the few that stand."""
        for seed in range(3):
            rng = random.Random(seed)
            kept, version = Kept(2), 0
            for turn in range(1500):
                # A row of at most 3 records behind the root; older ones are left behind.
                many = kept.many(version)
                changes = [("make", (turn, None)), ("set", 0, turn % 2, ("to", many)), ("set", many, 1, None)]
                if rng.random() < 0.3:
                    kept.deed(version, [("set", 0, 0, turn), ("make", (None, ("to", 0)))])
                    kept.drop(kept.total() - 1)
                fresh = kept.deed(version, changes)
                kept.drop(version)
                version = fresh
                self.assertLessEqual(kept.count(), 6)
            self.assertGreater(kept.total(), 1500)
            self.assertEqual(kept.many(version), 1501)
            self.assertLessEqual(size(kept.state()), 50 * (1 + 1 + 3 + 6))


class TestRuns(unittest.TestCase):
    def test_as_in_the_plain_heap(self):
        """Programs over what stands: the outcome is that of a plain run, pointers to records that the root leads to given."""
        words = {}
        for seed in range(150):
            rng = random.Random(seed)
            wide = 1 + seed % 3
            kept, model, check = Kept(wide), Model(wide), Check()
            for _ in range(10):
                check.turn(rng, kept, model, 0.25)
            if not model.standing:
                continue
            version = rng.choice(model.standing)
            program = drawn_program(rng, wide)
            name, params, _ = rng.choice(program)
            given = [rng.choice([None, 0, 3, ("to", rng.choice(kept.reaches(version)))]) for _ in params]
            machine = Machine(compiled(program, wide), kept, version, name, given, 250)
            machine.turn(1000)
            told = plain_run(program, model.heaps[version], wide, name, given, 250)
            self.assertEqual(machine.outcome(), told)
            words[told[0]] = True
            if told[0] == "gave":
                self.assertEqual(machine.end(), len(model.heaps))
                self.assertEqual(kept.look(len(model.heaps)), plain_seen(plain_copy(model.heaps[version], told[2])))
        self.assertEqual(len(words), 2)


class TestLimits(unittest.TestCase):
    def test_a_chain_that_grows(self):
        """1,200 versions, each with one record more ahead of the others; then every third stands."""
        many = 1200
        kept = Kept(2)
        for version in range(many):
            elder = ("to", version) if version else None
            kept.deed(version, [("make", (version, elder)), ("set", 0, 0, ("to", version + 1))])
        self.assertEqual(kept.count(), 1 + many + 1 + 2 * many)
        self.assertEqual(len(kept.reaches(many)), many + 1)
        for version in range(many + 1):
            if version % 3:
                kept.drop(version)
        standing = range(0, many + 1, 3)
        self.assertEqual(kept.standing(), tuple(standing))
        self.assertEqual(kept.count(), len(standing) + 1 + 2 * many)
        self.assertEqual(kept.read(many, 7, 1), ("to", 6))
        self.assertEqual(len(kept.look(many)), many + 1)
        again = kept_of(kept.state())
        self.assertEqual(again.state(), kept.state())

    def test_a_row_of_versions(self):
        many = 1300
        kept, story = Kept(1), []
        for version in range(many):
            kept.deed(version, [("set", 0, 0, version % 5)])
            story.append((version, [("set", 0, 0, version % 5)]))
        self.assertEqual(kept.kept_rows(), least_rows(story, 1, tuple(range(many + 1))))
        for version in range(1, many, 2):
            kept.drop(version)
        self.assertEqual(kept.kept_rows(), least_rows(story, 1, kept.standing()))
        self.assertEqual(plain_line(parents_in(story)), list(range(many + 1)))


if __name__ == "__main__":
    unittest.main()
