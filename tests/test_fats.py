"""Points [22] and [23]: Fat, as if copied, with just the least entries."""

import copy
import random
import sys
import unittest

from asifcopied.changes import heaps_of, is_story
from asifcopied.errors import BadDeed, BadField, BadMany, BadName, BadVersion, NoRecord
from asifcopied.fats import Fat, dear_story

from plain import comes_of, drawn_deed, drawn_story, not_numbers, odd_values, plain_copy, plain_heaps, plain_line
from plain import plain_seen
from test_entries import plain_least


class Copies:
    """All versions with a plain copy of the heap each, and the names of its records."""

    def __init__(self, wide):
        self.wide = wide
        self.parents = [None]
        self.story = []
        self.heaps = [((None,) * wide,)]
        self.names = [[(0, 0)]]

    def deed(self, parent, changes):
        self.story.append((parent, list(changes)))
        heap = plain_copy(self.heaps[parent], changes)
        made = len(heap) - len(self.heaps[parent])
        self.names.append(self.names[parent] + [(len(self.heaps), which) for which in range(made)])
        self.heaps.append(heap)
        self.parents.append(parent)

    def all_names(self):
        return sorted({name for names in self.names for name in names})

    def least(self, name, field):
        made = name[0]
        values = {version: self.heaps[version][names.index(name)][field]
                  for version, names in enumerate(self.names) if comes_of(self.parents, version, made)}
        return plain_least(tuple(self.parents), made, values)


class TestFat(unittest.TestCase):
    def check(self, fat, copies):
        self.assertEqual(fat.parents(), tuple(copies.parents))
        self.assertEqual(fat.line(), tuple(plain_line(tuple(copies.parents))))
        self.assertEqual(fat.story(), copies.story)
        for version, heap in enumerate(copies.heaps):
            self.assertEqual(fat.heap(version), heap)
            self.assertEqual(fat.look(version), plain_seen(heap))
            self.assertEqual(fat.many(version), len(heap))
            for record, row in enumerate(heap):
                self.assertEqual(tuple(fat.read(version, record, field) for field in range(fat.wide)), row)
        count = 0
        for name in copies.all_names():
            for field in range(fat.wide):
                self.assertEqual(fat.entries(name, field), copies.least(name, field))
                count += len(fat.entries(name, field))
        self.assertEqual(fat.count(), count)

    def check_names(self, fat, copies):
        for version, names in enumerate(copies.names):
            for record, name in enumerate(names):
                self.assertEqual(fat.name(version, record), name)
            for name in copies.all_names():
                number = names.index(name) if name in names else None
                self.assertEqual(fat.number(version, name), number)

    def test_drawn(self):
        for seed in range(25):
            rng = random.Random(seed)
            wide = 1 + seed % 3
            fat, copies = Fat(wide), Copies(wide)
            for _ in range(12):
                parent = rng.randrange(len(copies.heaps))
                changes = drawn_deed(rng, copies.heaps[parent], wide, records=5)
                ahead = fat.count()
                self.assertEqual(fat.deed(parent, changes), len(copies.heaps))
                copies.deed(parent, changes)
                self.check(fat, copies)
                self.check_price(fat, copies, parent, ahead)
            self.check_names(fat, copies)

    def check_price(self, fat, copies, parent, ahead):
        elder, heap = copies.heaps[parent], copies.heaps[-1]
        made = fat.wide * (len(heap) - len(elder))
        changed = sum(1 for old, new in zip(elder, heap) for one, other in zip(old, new) if one != other)
        self.assertLessEqual(ahead + made, fat.count())
        self.assertLessEqual(fat.count(), ahead + made + 2 * changed)

    def test_any_sequence(self):
        """The same tree, its versions made in two sequences: the heaps are those of the same ways."""
        story = drawn_story(8, 20, 2, records=6)
        one = Fat(2)
        for parent, deed in story:
            one.deed(parent, deed)
        other, numbers, left = Fat(2), {0: 0}, list(range(1, 21))
        rng = random.Random(1)
        while left:
            version = rng.choice([v for v in left if story[v - 1][0] in numbers])
            left.remove(version)
            parent, deed = story[version - 1]
            numbers[version] = other.deed(numbers[parent], deed)
        for version, number in numbers.items():
            self.assertEqual(one.heap(version), other.heap(number))
        self.assertEqual(other.heap(5), heaps_of(other.story(), 2)[5])

    def test_by_hand(self):
        fat = Fat(1)
        self.assertEqual(fat.deed(0, []), 1)
        self.assertEqual(fat.deed(0, [("set", 0, 0, 5)]), 2)
        self.assertEqual(fat.entries((0, 0), 0), ((0, None), (2, 5), (1, None)))
        self.assertEqual(fat.deed(0, [("set", 0, 0, 5)]), 3)
        self.assertEqual(fat.line(), (0, 3, 2, 1))
        self.assertEqual(fat.entries((0, 0), 0), ((0, None), (3, 5), (1, None)))
        self.assertEqual(fat.count(), 3)

    def test_at_first(self):
        fat = Fat(wide=3)
        self.assertEqual(fat.wide, 3)
        self.assertEqual((fat.parents(), fat.line(), fat.story()), ((None,), (0,), []))
        self.assertEqual((fat.heap(0), fat.look(0), fat.many(0)), (((None,) * 3,), ((None,) * 3,), 1))
        self.assertEqual((fat.name(0, 0), fat.number(0, (0, 0)), fat.count()), ((0, 0), 0, 3))
        self.assertEqual(fat.entries((0, 0), 2), ((0, None),))

    def test_same_number_in_unlike_branches(self):
        fat = Fat(1)
        fat.deed(version=0, changes=[("make", (1,))])
        fat.deed(0, [("make", (2,)), ("make", (3,))])
        fat.deed(2, [])
        self.assertEqual([fat.name(version=v, record=1) for v in (1, 2, 3)], [(1, 0), (2, 0), (2, 0)])
        self.assertEqual(fat.name(3, 2), (2, 1))
        self.assertEqual(fat.number(version=1, name=(1, 0)), 1)
        self.assertEqual([fat.number(3, (2, 1)), fat.number(2, (1, 0)), fat.number(0, (1, 0))], [2, None, None])
        self.assertEqual([fat.read(version=v, record=1, field=0) for v in (1, 2, 3)], [1, 2, 2])
        self.assertEqual(fat.entries(name=(2, 1), field=0), ((2, 3),))

    def test_behind_one_that_lacks_the_record(self):
        # Version 3 is put ahead of 1, at which the record that version 2 made is not there.
        fat = Fat(1)
        fat.deed(0, [])
        fat.deed(0, [("make", (1,))])
        fat.deed(2, [("set", 1, 0, 2)])
        self.assertEqual(fat.line(), (0, 2, 3, 1))
        self.assertEqual(fat.entries((2, 0), 0), ((2, 1), (3, 2)))
        fat.deed(0, [("make", (9,))])
        fat.deed(4, [("set", 1, 0, 8)])
        self.assertEqual(fat.entries((4, 0), 0), ((4, 9), (5, 8)))

    def test_refused_deeds_change_nothing(self):
        fat, copies = Fat(2), Copies(2)
        for parent, deed in drawn_story(3, 6, 2, records=4):
            fat.deed(parent, deed)
            copies.deed(parent, deed)
        many = fat.many(3)
        for changes, at in [([("set", 0, 0, 77), ("set", many, 0, 1)], 1), ([("make", (7, 7)), None], 1), (None, None),
                            ({}, None), ("", None), (5, None), ([("set", 0, 2, 1)], 0), ([("make", (1, True))], 0),
                            ([("make", (1, 1)), ("set", 0, 0, ("to", many + 1))], 1), ([["set", 0, 0, 1]], 0)]:
            with self.assertRaises(BadDeed) as caught:
                fat.deed(3, changes)
            self.assertEqual(caught.exception.at, at)
            self.check(fat, copies)
        for bad in not_numbers(0, 6):
            with self.assertRaises(BadVersion):
                fat.deed(bad, None)
        self.check(fat, copies)
        self.assertEqual(fat.deed(3, (("set", 0, 0, 77),)), 7)
        copies.deed(3, [("set", 0, 0, 77)])
        self.check(fat, copies)

    def test_what_is_passed_or_returned_may_be_changed(self):
        fat, copies = Fat(1), Copies(1)
        changes = [("make", (4,)), ("set", 0, 0, ("to", 1))]
        kept = copy.deepcopy(changes)
        fat.deed(0, changes)
        self.assertEqual(changes, kept)
        copies.deed(0, kept)
        changes.append(("set", 0, 0, 3))
        changes[0] = None
        self.check(fat, copies)
        story = fat.story()
        story[0][1].clear()
        story.clear()
        self.check(fat, copies)

    def test_errors(self):
        fat = Fat(2)
        fat.deed(0, [("make", (1, 2))])
        fat.deed(0, [])
        for bad in not_numbers(0, 2):
            for call in [lambda: fat.heap(bad), lambda: fat.look(bad), lambda: fat.many(bad),
                         lambda: fat.read(bad, None, None), lambda: fat.name(bad, None), lambda: fat.number(bad, None)]:
                with self.assertRaises(BadVersion):
                    call()
        for version, most in [(0, 0), (1, 1), (2, 0)]:
            for bad in not_numbers(0, most):
                for call in [lambda: fat.read(version, bad, None), lambda: fat.name(version, bad)]:
                    with self.assertRaises(NoRecord) as caught:
                        call()
                    self.assertIs(caught.exception.record, bad)
        for bad in not_numbers(0, 1):
            with self.assertRaises(BadField):
                fat.read(1, 1, bad)
            with self.assertRaises(BadField):
                fat.entries((1, 0), bad)

    def test_bad_names(self):
        fat = Fat(2)
        fat.deed(0, [("make", (1, 2)), ("make", (1, 2))])
        fat.deed(0, [])
        names = [(0, 0), (1, 0), (1, 1)]
        bad = [(0, 1), (1, 2), (2, 0), (3, 0), (-1, 0), (1, -1), (True, 0), (0, False), (1, True), [1, 0], (1,), (1, 0, 0),
               (1, None), (None, 0), ("1", 0), (10 ** 18, 0), (1, (0,))]
        for name in bad + [value for value in odd_values() if value != (0, 0)]:
            for call in [lambda: fat.number(0, name), lambda: fat.entries(name, None)]:
                with self.assertRaises(BadName):
                    call()
        for name in names:
            self.assertEqual(len(fat.entries(name, 1)), 1)
        self.assertEqual([fat.number(1, name) for name in names], [0, 1, 2])
        fat.deed(2, [("make", (1, 2)), ("make", (1, 2))])
        for name in [(-1, 0), (-1, 1), (3, 2), (3, -1), (4, 0), (2, 0)]:
            with self.assertRaises(BadName):
                fat.entries(name, 0)

    def test_equal_to_no_other(self):
        fat = Fat(1)
        for value in odd_values():
            self.assertFalse(fat == value)
        self.assertTrue(fat == fat)


class TestPrices(unittest.TestCase):
    def test_dear_story(self):
        for many in [0, 1, 2, 3, 10, 50]:
            story = dear_story(many)
            self.assertTrue(is_story(story, 1))
            rows = [(version, []) for version in range(many)]
            self.assertEqual(story, rows + [(version, [("set", 0, 0, 1)]) for version in range(many)])
            fat = Fat(1)
            for at, (parent, deed) in enumerate(story):
                ahead = fat.count()
                fat.deed(parent, deed)
                self.assertEqual(fat.count() - ahead, 2 if at >= many else 0)
            self.assertEqual(fat.count(), 2 * many + 1)
        story = dear_story(3)
        story[0][1].append(1)
        story.clear()
        self.assertEqual(len(dear_story(many=3)), 6)
        self.assertEqual(dear_story(3)[0], (0, []))

    def test_less_than_twice_what_must_be_paid(self):
        """Changes to numbers that a field never had need one entry each, and take two at the most."""
        for seed in range(30):
            rng = random.Random(seed)
            fat, made, changed = Fat(2), 1, 0
            for number in range(25):
                parent = rng.randrange(number + 1)
                changes = [("make", (None, 0))] if rng.random() < 0.2 else []
                fields = [(record, field) for record in range(fat.many(parent)) for field in range(2)]
                told = rng.sample(fields, rng.randrange(len(fields) + 1))
                changes += [("set", record, field, number + 1) for record, field in told]
                fat.deed(parent, changes)
                made += len(changes) - len(told)
                changed += len(told)
                self.assertLessEqual(2 * made + changed, fat.count())
                self.assertLessEqual(fat.count(), 2 * made + 2 * changed)

    def test_bad_many(self):
        for bad in not_numbers(0, 900):
            with self.assertRaises(BadMany):
                dear_story(bad)
        self.assertEqual(len(dear_story(900)), 1800)

    def test_two_thousand_versions(self):
        fat = Fat(1)
        for at in range(1999):
            fat.deed(at, [("set", 0, 0, at), ("make", (at,))])
        self.assertEqual(fat.count(), 2000 + 1999)
        self.assertEqual(fat.read(1000, 0, 0), 999)
        self.assertEqual(fat.many(1999), 2000)
        self.assertEqual(fat.name(1999, 1999), (1999, 0))
        self.assertEqual(fat.heap(1999), plain_heaps(fat.story(), 1)[1999])


def lines_done(call):
    """How many lines are done in a call, in all functions."""
    lines = [0]

    def trace(frame, event, arg):
        lines[0] += event == "line"
        return trace

    ahead = sys.gettrace()
    sys.settrace(trace)
    try:
        call()
    finally:
        sys.settrace(ahead)
    return lines[0]


class TestLongRows(unittest.TestCase):
    def row(self, many):
        """A row of versions with empty deeds but for the one at version 1,000, and a change of what it made."""
        fat, copies = Fat(1), Copies(1)
        for version in range(many):
            changes = [("make", (1000,)), ("set", 0, 0, ("to", 1))] if version == 1000 else []
            self.assertEqual(fat.deed(version, changes), version + 1)
            copies.deed(version, changes)
        fat.deed(1000, [("set", 0, 0, 5)])
        copies.deed(1000, [("set", 0, 0, 5)])
        return fat, copies

    def test_what_is_told(self):
        fat, copies = self.row(1010)
        self.assertEqual(fat.parents(), (None,) + tuple(range(1010)) + (1000,))
        self.assertEqual(fat.line(), tuple(range(1001)) + (1011,) + tuple(range(1001, 1011)))
        self.assertEqual(fat.story(), copies.story)
        for version in range(1012):
            self.assertEqual(fat.heap(version), copies.heaps[version])
            self.assertEqual(fat.many(version), len(copies.heaps[version]))
            self.assertEqual(fat.name(version, 0), (0, 0))
            self.assertEqual(fat.number(version, (0, 0)), 0)
            there = 1001 <= version <= 1010
            self.assertEqual(fat.number(version, (1001, 0)), 1 if there else None)
            self.assertEqual(fat.read(version, 0, 0), 5 if version == 1011 else ("to", 1) if there else None)
            if there:
                self.assertEqual((fat.name(version, 1), fat.read(version, 1, 0)), ((1001, 0), 1000))
        self.assertEqual(fat.entries((0, 0), 0), ((0, None), (1011, 5), (1001, ("to", 1))))
        self.assertEqual(fat.entries((1001, 0), 0), ((1001, 1000),))
        self.assertEqual(fat.count(), 4)

    def test_an_empty_deed_takes_no_longer(self):
        short, long = Fat(1), self.row(1010)[0]
        for version in range(10):
            short.deed(version, [])
        self.assertEqual(lines_done(lambda: short.deed(10, [])), lines_done(lambda: long.deed(1010, [])))
        self.assertEqual(lines_done(lambda: short.deed(5, [])), lines_done(lambda: long.deed(500, [])))

    def test_many_versions_in_one_place(self):
        """So many versions come right behind one that the line has to be laid anew, twice."""
        fat = Fat(1)
        for number in range(1200):
            fat.deed(0, [("set", 0, 0, number)] if number % 3 else [])
        self.assertEqual(fat.line(), (0,) + tuple(range(1200, 0, -1)))
        for version in range(1, 1201):
            self.assertEqual(fat.read(version, 0, 0), version - 1 if (version - 1) % 3 else None)
        values = {version: fat.read(version, 0, 0) for version in range(1201)}
        self.assertEqual(fat.entries((0, 0), 0), plain_least(fat.parents(), 0, values))


if __name__ == "__main__":
    unittest.main()
