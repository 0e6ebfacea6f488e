"""Points [40] to [43] and [45]: cells that split."""

import copy
import random
import unittest

from asifcopied.cells import Cells
from asifcopied.errors import BadCell, BadDeed, BadField, BadMost, BadRecord, BadRoom, BadVersion, BadWay, BadWide
from asifcopied.errors import NoWay, TooPointed

from plain import comes_of, drawn_deed, drawn_story, not_numbers, odd_values, plain_copy, plain_heaps, plain_line
from plain import plain_pointed, plain_seen
from plain_cells import PlainCells


def grown(wide, room, most, story):
    cells = Cells(wide, room, most)
    for parent, deed in story:
        cells.deed(parent, deed)
    return cells


def state(cells):
    """All that a keeper tells without being asked for one version."""
    return (cells.cells(), cells.line(), cells.parents(), cells.splits(),
            [(cells.things(number), cells.pointing(number)) for number in range(len(cells.cells()))])


class Shared(unittest.TestCase):
    def check_readings(self, cells, heaps, parents):
        line = plain_line(tuple(parents))
        self.assertEqual(cells.line(), tuple(line))
        self.assertEqual(cells.parents(), tuple(parents))
        for version, heap in enumerate(heaps):
            self.assertEqual(cells.heap(version), heap)
            self.assertEqual(cells.many(version), len(heap))
            self.assertEqual(cells.shown(version), plain_seen(heap))
            for record, row in enumerate(heap):
                self.assertEqual(tuple(cells.read(version, record, field) for field in range(cells.wide)), row)

    def versions_of(self, table, number, line, parents):
        name, beginning, _, _ = table[number]
        begins = [row[1] for row in table if row[0] == name]
        told = []
        for version in line[line.index(beginning):]:
            if not comes_of(parents, version, name[0]) or (told and version in begins):
                break
            told.append(version)
        return told

    def check_always(self, cells, heaps):
        """MEANING, WITHIN, room, things and pointing, read off cells() alone."""
        table, line, parents = cells.cells(), cells.line(), cells.parents()
        leads = {number: [] for number in range(len(table))}
        have = [self.versions_of(table, number, line, parents) for number in range(len(table))]
        seen = {}
        for number, (name, beginning, values, entries) in enumerate(table):
            keys = [(line.index(version), field) for version, field, _ in entries]
            self.assertEqual(keys, sorted(set(keys)))
            for at, version in enumerate(have[number]):
                for field in range(cells.wide):
                    told = [value for v, f, value in entries if f == field and v in have[number][:at + 1]]
                    value = (told or [values[field]])[-1]
                    self.assertEqual(cells.step(version, number, field), value)
                    if isinstance(value, tuple):
                        self.assertEqual(value[0], "in")
                        self.assertIn(version, have[value[1]])
                        value = ("to", table[value[1]][0][1])
                    seen[version, name[1], field] = value
            for version, _, _ in entries:
                self.assertIn(version, have[number][1:])
            rows = [(beginning, field, value) for field, value in enumerate(values)] + list(entries)
            for version, field, value in rows:
                if isinstance(value, tuple):
                    leads[value[1]].append((number, version, field))
        for number, row in enumerate(table):
            self.assertEqual(cells.pointing(number), sorted(leads[number]))
            behind = [version for _, version, _ in leads[number] if version != row[1]]
            self.assertEqual(cells.things(number), len(row[3]) + len(behind))
            self.assertLessEqual(cells.things(number), cells.room)
        plain = {(version, record, field): value for version, heap in enumerate(heaps)
                 for record, row in enumerate(heap) for field, value in enumerate(row)}
        self.assertEqual(seen, plain)
        return have

    def check_steps(self, cells, heaps, have):
        table = cells.cells()
        for version, heap in enumerate(heaps):
            roots = [number for number, row in enumerate(table) if row[0] == (0, 0) and version in have[number]]
            self.assertEqual([cells.root(version)], roots)
            self.assertEqual(cells.walk(version, []), ("in", roots[0]))
            self.check_ways(cells, heap, version, [], 0, roots[0])

    def check_ways(self, cells, heap, version, way, record, number):
        if len(way) == 3:
            return
        for field in range(cells.wide):
            told = cells.step(version, number, field)
            self.assertEqual(cells.walk(version, way + [field]), told)
            value = heap[record][field]
            if isinstance(value, tuple):
                self.assertEqual(cells.cells()[told[1]][0][1], value[1])
                self.check_ways(cells, heap, version, way + [field], value[1], told[1])
            else:
                self.assertEqual(told, value)
                with self.assertRaises(NoWay) as caught:
                    cells.walk(version, way + [field, 0])
                self.assertEqual(caught.exception.at, len(way) + 1)


class TestCells(Shared):
    def test_drawn(self):
        """Small and large rooms, with splits by hand between, against the words read plainly."""
        splits = by_hand = 0
        for seed in range(48):
            rng = random.Random(seed)
            wide, room, most = 1 + seed % 3, rng.choice([1, 2, 3, 4, 6, 9, 50]), rng.choice([1, 2, 3, 4])
            cells, plain = Cells(wide, room, most), PlainCells(wide, room, most)
            for _ in range(13):
                parent = rng.choice([len(plain.heaps) - 1, rng.randrange(len(plain.heaps))])
                changes = drawn_deed(rng, plain.heaps[parent], wide, most, records=5)
                self.assertEqual(cells.deed(parent, changes), plain.deed(parent, changes))
                self.assertEqual(cells.cells(), plain.table())
                if rng.random() < 0.4:
                    by_hand += self.split_by_hand(rng, cells, plain)
                self.assertEqual(cells.splits(), plain.splits)
                self.check_readings(cells, plain.heaps, plain.parents)
                have = self.check_always(cells, plain.heaps)
                self.check_steps(cells, plain.heaps, have)
            splits += plain.splits
        self.assertGreater(by_hand, 100)
        self.assertGreater(splits - by_hand, 100)

    def split_by_hand(self, rng, cells, plain):
        pairs = [(number, version) for number in range(len(plain.cells)) for version in plain.versions(number)[1:]]
        if not pairs:
            return 0
        number, version = rng.choice(pairs)
        plain.split(number, version)
        plain.settle()
        cells.split(number, version)
        self.assertEqual(cells.cells(), plain.table())
        return 1

    def test_names_and_beginnings_stay(self):
        for seed in range(6):
            cells = Cells(2, 3, 3)
            ahead = ()
            for parent, deed in drawn_story(seed, 20, 2, most=3):
                cells.deed(parent, deed)
                table = [(name, beginning) for name, beginning, _, _ in cells.cells()]
                self.assertEqual(table[:len(ahead)], list(ahead))
                ahead = table

    def test_two_keepers_have_the_same_cells(self):
        for seed in range(6):
            story = drawn_story(seed, 15, 2, most=3)
            one, other = grown(2, 2, 3, story), grown(2, 2, 3, story)
            self.assertEqual(state(one), state(other))
            self.assertFalse(one == other)
            number, version = next((number, version) for number in range(len(one.cells()))
                                   for version in range(15)
                                   if version in self.versions_of(one.cells(), number, one.line(), one.parents())[1:])
            for cells in (one, other):
                cells.split(number, version)
                cells.deed(7, [("make", (1, ("to", 0)))])
            self.assertEqual(state(one), state(other))

    def test_at_first(self):
        cells = Cells(wide=2, room=5, most=4)
        self.assertEqual((cells.wide, cells.room, cells.most), (2, 5, 4))
        self.assertEqual(cells.cells(), (((0, 0), 0, (None, None), ()),))
        self.assertEqual((cells.line(), cells.parents(), cells.splits()), ((0,), (None,), 0))
        self.assertEqual((cells.things(0), cells.pointing(0), cells.root(0)), (0, [], 0))
        self.assertEqual((cells.heap(0), cells.shown(0)), (((None, None),),) * 2)
        self.assertEqual((cells.walk(0, ()), cells.walk(0, [1])), (("in", 0), None))

    def test_by_hand(self):
        cells = Cells(1, 1, 1)
        self.assertEqual(cells.deed(0, [("make", (None,)), ("set", 0, 0, ("to", 1))]), 1)
        self.assertEqual(cells.cells(), (((0, 0), 0, (None,), ((1, 0, ("in", 1)),)), ((1, 1), 1, (None,), ())))
        self.assertEqual(cells.deed(1, [("set", 1, 0, 6)]), 2)
        self.assertEqual(cells.cells()[1], ((1, 1), 1, (None,), ((2, 0, 6),)))
        self.assertEqual(cells.deed(2, [("set", 1, 0, 7)]), 3)
        self.assertEqual(cells.cells(), (((0, 0), 0, (None,), ((1, 0, ("in", 1)),)), ((1, 1), 1, (None,), ((2, 0, 6),)),
                                         ((1, 1), 3, (7,), ()), ((0, 0), 3, (("in", 2),), ())))
        self.assertEqual(cells.splits(), 2)
        self.assertEqual((cells.walk(3, [0, 0]), cells.walk(2, [0, 0]), cells.root(3)), (7, 6, 3))
        self.assertEqual((cells.pointing(1), cells.pointing(2), cells.things(2)), ([(0, 1, 0)], [(3, 3, 0)], 0))

    def test_a_lead_to_its_own_cell(self):
        cells = Cells(2, 3, 2)
        cells.deed(0, [("set", 0, 0, ("to", 0))])
        self.assertEqual(cells.cells(), (((0, 0), 0, (None, None), ((1, 0, ("in", 0)),)),))
        self.assertEqual((cells.things(0), cells.pointing(0)), (2, [(0, 1, 0)]))
        cells.deed(1, [("set", 0, 1, 5)])
        self.assertEqual(cells.splits(), 0)
        cells.deed(2, [("set", 0, 1, 6)])
        # The things are at 1, 1, 2, 3: the third one is at 2.
        self.assertEqual(cells.cells(), (((0, 0), 0, (None, None), ((1, 0, ("in", 0)),)),
                                         ((0, 0), 2, (("in", 1), 5), ((3, 1, 6),))))
        self.assertEqual((cells.pointing(0), cells.pointing(1)), ([(0, 1, 0)], [(1, 2, 0)]))

    def test_what_is_ahead_and_behind_alone(self):
        # A field that is set and set back is not written, nor is one that gets the value it has.
        cells = Cells(1, 9, 1)
        cells.deed(0, [("set", 0, 0, 5), ("set", 0, 0, None)])
        self.assertEqual(cells.cells(), (((0, 0), 0, (None,), ()),))
        cells.deed(0, [("make", (None,)), ("set", 1, 0, 3), ("set", 0, 0, None)])
        self.assertEqual(cells.cells(), (((0, 0), 0, (None,), ()), ((2, 1), 2, (3,), ())))

    def test_the_next_version_keeps_what_it_read(self):
        cells = Cells(1, 9, 1)
        cells.deed(0, [])
        cells.deed(0, [("set", 0, 0, 1)])
        self.assertEqual(cells.cells()[0], ((0, 0), 0, (None,), ((2, 0, 1), (1, 0, None))))
        cells.deed(0, [("set", 0, 0, 1)])
        self.assertEqual(cells.cells()[0][3], ((3, 0, 1), (2, 0, 1), (1, 0, None)))
        cells.deed(0, [("set", 0, 0, 2)])
        self.assertEqual(cells.cells()[0][3], ((4, 0, 2), (3, 0, 1), (2, 0, 1), (1, 0, None)))

    def test_refused_deeds_change_nothing(self):
        cells = grown(2, 2, 2, drawn_story(4, 10, 2, most=2, records=4))
        heaps = [cells.heap(version) for version in range(11)]
        kept = state(cells)
        for version in range(11):
            many = cells.many(version)
            for changes, at in [([("set", 0, 0, 7), ("set", many, 0, 1)], 1), ([("make", (1, 2)), None], 1), (None, None),
                                ({}, None), ("", None), ([("set", 0, 2, 1)], 0), ([("make", (1, True))], 0),
                                ([("make", [1, 2])], 0), ([("set", 0, 0, ("in", 0))], 0)]:
                with self.assertRaises(BadDeed) as caught:
                    cells.deed(version, changes)
                self.assertEqual(caught.exception.at, at)
            with self.assertRaises(TooPointed):
                cells.deed(version, [("set", 0, 0, 1), ("make", (("to", many), ("to", many))), ("make", (("to", many), 1))])
            self.assertEqual(state(cells), kept)
        for bad in not_numbers(0, 10):
            with self.assertRaises(BadVersion):
                cells.deed(bad, None)
        self.check_readings(cells, heaps, cells.parents())
        self.assertEqual(state(cells), kept)
        self.assertEqual(cells.deed(3, (("set", 0, 1, 77),)), 11)

    def test_too_pointed(self):
        cells = Cells(2, 9, 2)
        cells.deed(0, [("make", (("to", 0), ("to", 0))), ("make", (("to", 1), None))])
        kept = state(cells)
        for changes, record in [([("set", 0, 0, ("to", 0))], 0), ([("set", 0, 0, ("to", 1)), ("set", 0, 1, ("to", 1))], 1),
                                ([("make", (("to", 0), ("to", 3))), ("set", 0, 0, ("to", 3)), ("set", 0, 1, ("to", 3))], 0),
                                ([("make", (("to", 3), ("to", 3))), ("set", 0, 0, ("to", 3))], 3),
                                ([("make", (("to", 3), ("to", 3))), ("set", 0, 0, ("to", 3)), ("set", 2, 1, ("to", 0))], 0)]:
            with self.assertRaises(TooPointed) as caught:
                cells.deed(1, changes)
            self.assertEqual(caught.exception.record, record)
            self.assertEqual(state(cells), kept)
        # Behind the whole deed no record is led to too often: in between one is.
        changes = [("set", 0, 0, ("to", 0)), ("set", 0, 1, ("to", 0)), ("set", 1, 0, None), ("set", 1, 1, None)]
        self.assertEqual(cells.deed(1, changes), 2)
        self.assertEqual(cells.heap(2), ((("to", 0), ("to", 0)), (None, None), (("to", 1), None)))
        with self.assertRaises(BadDeed):
            cells.deed(1, [("set", 0, 0, ("to", 0)), None])

    def test_what_is_passed_may_be_changed(self):
        cells = Cells(1, 2, 1)
        changes = [("make", (4,)), ("set", 0, 0, ("to", 1))]
        kept = copy.deepcopy(changes)
        cells.deed(0, changes)
        self.assertEqual(changes, kept)
        told = state(cells)
        changes.clear()
        cells.pointing(1).clear()
        self.assertEqual(state(cells), told)
        way = [0, 0]
        self.assertEqual(cells.walk(1, way), 4)
        self.assertEqual(way, [0, 0])

    def test_bad_splits(self):
        cells = grown(1, 3, 2, [(0, [("make", (1,)), ("set", 0, 0, ("to", 1))]), (1, []), (0, []), (2, [])])
        kept = state(cells)
        self.assertEqual(cells.line(), (0, 3, 1, 2, 4))
        for bad in not_numbers(0, 1):
            with self.assertRaises(BadCell):
                cells.split(bad, None)
        for number, versions in [(0, [0]), (1, [0, 3, 1])]:
            for bad in not_numbers(0, 4) + versions:
                with self.assertRaises(BadVersion):
                    cells.split(number, bad)
        self.assertEqual(state(cells), kept)
        cells.split(cell=1, version=2)
        self.assertEqual(cells.cells()[2], ((1, 1), 2, (1,), ()))
        self.assertEqual(cells.cells()[0], ((0, 0), 0, (None,), ((1, 0, ("in", 1)), (2, 0, ("in", 2)))))
        self.assertEqual(cells.splits(), 1)
        for version in (2, 4):
            with self.assertRaises(BadVersion):
                cells.split(1, version)
        cells.split(2, 4)
        self.assertEqual((cells.splits(), len(cells.cells())), (2, 4))
        cells.split(0, 4)
        self.assertEqual(cells.splits(), 3)

    def test_split_by_hand_goes_on(self):
        # The split of the record's cell puts a second thing into the root's: this one is split as well.
        cells = grown(1, 1, 1, [(0, [("make", (1,)), ("set", 0, 0, ("to", 1))]), (1, [])])
        cells.split(1, 2)
        self.assertEqual(cells.cells(), (((0, 0), 0, (None,), ((1, 0, ("in", 1)),)), ((1, 1), 1, (1,), ()),
                                         ((1, 1), 2, (1,), ()), ((0, 0), 2, (("in", 2),), ())))
        self.assertEqual(cells.splits(), 2)

    def test_errors(self):
        for bad in not_numbers(1, 6):
            with self.assertRaises(BadWide):
                Cells(bad, None, None)
        for bad in not_numbers(1):
            with self.assertRaises(BadRoom):
                Cells(1, bad, None)
            with self.assertRaises(BadMost):
                Cells(1, 1, bad)
        cells = grown(2, 3, 2, [(0, [("make", (1, ("to", 0)))]), (0, [])])
        for bad in not_numbers(0, 2):
            for call in [lambda: cells.many(bad), lambda: cells.read(bad, None, None), lambda: cells.heap(bad),
                         lambda: cells.root(bad), lambda: cells.step(bad, None, None), lambda: cells.walk(bad, None),
                         lambda: cells.shown(bad)]:
                with self.assertRaises(BadVersion):
                    call()
        for version, most in [(0, 0), (1, 1), (2, 0)]:
            for bad in not_numbers(0, most):
                with self.assertRaises(BadRecord):
                    cells.read(version, bad, None)
        for bad in not_numbers(0, 1):
            with self.assertRaises(BadField):
                cells.read(1, 1, bad)
            with self.assertRaises(BadField):
                cells.step(1, 1, bad)
            with self.assertRaises(BadWay):
                cells.walk(1, [0, bad])
            with self.assertRaises(BadWay):
                cells.walk(1, (bad,))
            for call in [cells.things, cells.pointing]:
                with self.assertRaises(BadCell):
                    call(bad)
        for version, bads in [(0, [1]), (1, []), (2, [1])]:
            for bad in not_numbers(0, 1) + bads:
                with self.assertRaises(BadCell):
                    cells.step(version, bad, None)
        for bad in odd_values():
            if not isinstance(bad, (list, tuple)) or bad not in ([], (), [0], (0,), (0, 0)):
                with self.assertRaises(BadWay):
                    cells.walk(1, bad)

    def test_ways_that_do_not_go_on(self):
        cells = grown(1, 3, 2, [(0, [("make", (7,)), ("set", 0, 0, ("to", 1))])])
        self.assertEqual(cells.walk(version=1, way=[0, 0]), 7)
        self.assertEqual(cells.walk(1, (0,)), ("in", 1))
        for version, way, at in [(0, [0, 0], 1), (1, [0, 0, 0], 2), (1, [0, 0, 0, 0], 2), (0, [0, 0, 0], 1)]:
            with self.assertRaises(NoWay) as caught:
                cells.walk(version, way)
            self.assertEqual(caught.exception.at, at)
        with self.assertRaises(BadWay):
            cells.walk(0, [0, 0, 1])

    def test_by_name(self):
        cells = Cells(wide=1, room=2, most=1)
        cells.deed(version=0, changes=[("make", (7,)), ("set", 0, 0, ("to", 1))])
        self.assertEqual(cells.read(version=1, record=1, field=0), 7)
        self.assertEqual(cells.step(version=1, cell=1, field=0), 7)
        self.assertEqual((cells.many(version=1), cells.root(version=1)), (2, 0))
        self.assertEqual(cells.heap(version=1), cells.shown(version=1))
        self.assertEqual((cells.things(cell=1), cells.pointing(cell=1)), (0, [(0, 1, 0)]))

    def test_equal_to_no_other(self):
        cells = Cells(1, 1, 1)
        for value in odd_values():
            self.assertFalse(cells == value)


class TestPrice(Shared):
    def potential(self, cells):
        return sum(max(0, cells.things(number) - cells.room // 2) for number in range(len(cells.cells())))

    def test_over_trees_and_rows(self):
        splits = 0
        for seed in range(24):
            rng = random.Random(seed)
            wide, most, row = 1 + seed % 2, 1 + seed % 3, seed % 4 == 0
            room = 2 * (most + wide) + rng.randrange(3)
            share = room // 2 + 1 - most - wide
            self.assertGreater(share, 0)
            each = 2 if row else 4
            cells = Cells(wide, room, most)
            heaps, parents, paid, stock = [((None,) * wide,)], [None], 0, 0
            for last in range(60):
                parent = last if row or rng.random() < 0.5 else rng.randrange(last + 1)
                changes = drawn_deed(rng, heaps[parent], wide, most, records=4)
                elder, heap = heaps[parent], plain_copy(heaps[parent], changes)
                written = sum(1 for old, new in zip(elder, heap) for one, other in zip(old, new) if one != other)
                pointers = sum(1 for new in heap[len(elder):] for value in new
                               if isinstance(value, tuple) and value[1] < len(elder))
                done = cells.splits()
                cells.deed(parent, changes)
                paid += each * written + pointers
                self.assertLessEqual(cells.splits() * share, paid - self.potential(cells))
                grows = each * written + pointers - share * (cells.splits() - done)
                self.assertLessEqual(self.potential(cells) - stock, grows)
                stock = self.potential(cells)
                heaps.append(heap)
                parents.append(parent)
            self.check_readings(cells, heaps, parents)
            self.check_always(cells, heaps)
            splits += cells.splits()
        self.assertGreater(splits, 100)

    def test_a_writer_makes_it_pay(self):
        for room in [1, 2, 3, 4, 5, 8, 13]:
            for wide in [1, 2, 3]:
                cells = Cells(wide, room, 1)
                for at in range(60):
                    cells.deed(at, [("set", 0, wide - 1, at)])
                    count = at + 1
                    self.assertEqual(cells.splits(), max(0, count - room // 2) // (room + 1 - room // 2))

    def test_two_thousand_versions(self):
        rng = random.Random(1)
        cells, heaps = Cells(1, 8, 2), [((None,),)]
        for at in range(1999):
            parent = at if at % 3 else rng.randrange(at + 1)
            changes = [("make", (None,)), ("set", 0, 0, ("to", len(heaps[parent])))] if at % 9 == 0 else []
            changes = changes or [("set", rng.randrange(len(heaps[parent])), 0, at)]
            heap = plain_copy(heaps[parent], changes)
            self.assertLessEqual(max(plain_pointed(heap)), 2)
            self.assertEqual(cells.deed(parent, changes), at + 1)
            heaps.append(heap)
        for version in range(0, 2000, 7):
            self.assertEqual(cells.heap(version), heaps[version])
            self.assertEqual(cells.shown(version), plain_seen(heaps[version]))
        self.assertEqual(sorted(cells.line()), list(range(2000)))

    def test_plain_heaps(self):
        story = drawn_story(2, 30, 3, most=4)
        cells = grown(3, 4, 4, story)
        self.assertEqual([cells.heap(version) for version in range(31)], plain_heaps(story, 3))


if __name__ == "__main__":
    unittest.main()
