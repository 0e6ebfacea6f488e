"""Point [44]: a judge of cells."""

import unittest

from asifcopied.cells import Cells
from asifcopied.errors import BadRoom, BadStory, BadTable, BadWide
from asifcopied.splits import fault_of

from plain import drawn_story, not_numbers, odd_values, plain_heaps
from plain_cells import PlainCells

# The example of [45]: two records, each of which was split once.
STORY = [(0, [("make", (None,)), ("set", 0, 0, ("to", 1))]), (1, [("set", 1, 0, 6)]), (2, [("set", 1, 0, 7)])]
TABLE = (((0, 0), 0, (None,), ((1, 0, ("in", 1)),)),
         ((1, 1), 1, (None,), ((2, 0, 6),)),
         ((1, 1), 3, (7,), ()),
         ((0, 0), 3, (("in", 2),), ()))


def bent(table, number, at, part):
    """The table with another part at a place of one cell."""
    cell = table[number]
    return table[:number] + (cell[:at] + (part,) + cell[at + 1:],) + table[number + 1:]


def plain_fault(story, wide, room, table):
    """The words of [44], with the versions of each cell looked for anew."""
    plain = PlainCells(wide, room, 10 ** 6)
    heaps = plain_heaps(story, wide)
    plain.line, plain.parents = [0], [None]
    for version, (parent, _) in enumerate(story, 1):
        plain.line.insert(plain.line.index(parent) + 1, version)
        plain.parents.append(parent)
    names = [(0, 0)] + [(version, record) for version, (parent, _) in enumerate(story, 1)
                        for record in range(len(heaps[parent]), len(heaps[version]))]

    def there(name):
        told = {name[0]}
        for version, parent in enumerate(plain.parents):
            if parent in told:
                told.add(version)
        return told

    for c, (name, begin, _, _) in enumerate(table):
        if name not in names:
            return ("record", c)
        if begin not in there(name) or (name, begin) in [cell[:2] for cell in table[:c]]:
            return ("begin", c)
    for name in sorted(names):
        if (name, name[0]) not in [cell[:2] for cell in table]:
            return ("lacking", name)
    versions = []
    for c, (name, begin, _, _) in enumerate(table):
        begins = [cell[1] for cell in table if cell[0] == name and cell[1] != begin]
        row = []
        for version in plain.line[plain.line.index(begin):]:
            if version not in there(name) or version in begins:
                break
            row.append(version)
        versions.append(row)
    for c, (_, begin, _, entries) in enumerate(table):
        ahead = (plain.line.index(begin), wide)
        for i, (version, field, _) in enumerate(entries):
            here = (plain.line.index(version), field)
            if version not in versions[c] or here <= ahead:
                return ("entry", c, i)
            ahead = here
    things = [0] * len(table)
    for c, (name, begin, values, entries) in enumerate(table):
        things[c] += len(entries)
        for version, value in [(begin, value) for value in values] + [(entry[0], entry[2]) for entry in entries]:
            if isinstance(value, tuple) and plain.ahead(table[value[1]][1], version):
                things[value[1]] += 1
        for field in range(wide):
            for version in versions[c]:
                told = [value for at, where, value in entries if where == field and not plain.ahead(version, at)]
                value = (list(values[field:field + 1]) + told)[-1]
                plainly = ("to", table[value[1]][0][1]) if isinstance(value, tuple) else value
                if plainly != heaps[version][name[1]][field]:
                    return ("value", c, field, version)
                if isinstance(value, tuple) and version not in versions[value[1]]:
                    return ("within", c, field, version)
    for c, count in enumerate(things):
        if count > room:
            return ("room", c)
    return None


def bends(table, versions, wide):
    """Tables bent in one place, all of them such by their form."""
    many = len(table)
    for c, (name, begin, values, entries) in enumerate(table):
        for other in [(name[0] + 1, name[1]), (name[0], name[1] + 1), (versions + 5, 0), (0, 0)]:
            yield bent(table, c, 0, other)
        for other in range(versions):
            yield bent(table, c, 1, other)
        for field in range(wide):
            for value in [None, 77, ("in", 0), ("in", many - 1), ("in", (c + 1) % many)]:
                yield bent(table, c, 2, values[:field] + (value,) + values[field + 1:])
        for i, (version, field, value) in enumerate(entries):
            yield bent(table, c, 3, entries[:i] + entries[i + 1:])
            yield bent(table, c, 3, entries[:i] + entries[i:i + 1] + entries[i:])
            yield bent(table, c, 3, entries[:i] + ((begin, field, value),) + entries[i + 1:])
            for other in range(0, versions, 2):
                yield bent(table, c, 3, entries[:i] + ((other, field, value),) + entries[i + 1:])
            for other in [None, 78, ("in", 0), ("in", many - 1)]:
                yield bent(table, c, 3, entries[:i] + ((version, field, other),) + entries[i + 1:])
        yield table + (table[c],)
    if not [1 for _, _, values, entries in table if ("in", many - 1) in values + tuple(entry[2] for entry in entries)]:
        yield table[:-1]


class TestFaultOf(unittest.TestCase):
    def test_none_behind_each_deed_and_split(self):
        for seed in range(40):
            wide, room, most = 1 + seed % 3, 1 + seed % 7, 2 + seed % 3
            story = drawn_story(seed, 10, wide, most=most)
            cells = Cells(wide, room, most)
            self.assertIsNone(fault_of([], wide, room, cells.cells()))
            for at, (parent, deed) in enumerate(story):
                cells.deed(parent, deed)
                self.assertIsNone(fault_of(story[:at + 1], wide, room, cells.cells()))
            for number in range(len(cells.cells())):
                name, beginning, _, _ = cells.cells()[number]
                for version in range(11):
                    try:
                        cells.step(version, number, 0)
                    except ValueError:
                        continue
                    if version != beginning:
                        cells.split(number, version)
                        self.assertIsNone(fault_of(story, wide, room, cells.cells()))

    def test_bent_tables(self):
        """Tables bent in one place, against the words of the document."""
        kinds = {}
        for seed in range(12):
            wide, room, most = 1 + seed % 2, 2 + seed % 4, 2 + seed % 2
            story = drawn_story(seed, 7, wide, most=most, records=4)
            cells = Cells(wide, room, most)
            for parent, deed in story:
                cells.deed(parent, deed)
            for table in [cells.cells()] + list(bends(cells.cells(), 8, wide)):
                for most_things in (1, room):
                    fault = fault_of(story, wide, most_things, table)
                    self.assertEqual(fault, plain_fault(story, wide, most_things, table))
                    kinds[fault and fault[0]] = True
        self.assertEqual(set(kinds), {None, "record", "begin", "lacking", "entry", "value", "within", "room"})

    def test_by_hand(self):
        self.assertIsNone(fault_of(STORY, 1, 2, TABLE))
        cells = Cells(1, 1, 1)
        for parent, deed in STORY:
            cells.deed(parent, deed)
        self.assertIsNone(fault_of(STORY, 1, 1, cells.cells()))
        self.assertEqual(cells.cells(), TABLE)

    def test_each_kind(self):
        told = [(bent(TABLE, 1, 0, (2, 1)), ("record", 1)), (bent(TABLE, 1, 0, (9, 9)), ("record", 1)),
                (bent(TABLE, 2, 0, (0, 1)), ("record", 2)), (bent(TABLE, 2, 1, 0), ("begin", 2)),
                (bent(TABLE, 2, 1, 1), ("begin", 2)), (bent(TABLE, 0, 1, 1), ("lacking", (0, 0))),
                (bent(TABLE, 1, 1, 2), ("lacking", (1, 1))), ((), ("lacking", (0, 0))),
                (bent(TABLE, 1, 3, ((2, 0, 6), (3, 0, 7))), ("entry", 1, 1)),
                (bent(TABLE, 1, 3, ((0, 0, None), (2, 0, 6))), ("entry", 1, 0)),
                (bent(TABLE, 1, 3, ((1, 0, None), (2, 0, 6))), ("entry", 1, 0)),
                (bent(TABLE, 1, 3, ((2, 0, 6), (2, 0, 6))), ("entry", 1, 1)),
                (bent(TABLE, 1, 3, ()), ("value", 1, 0, 2)), (bent(TABLE, 2, 2, (None,)), ("value", 2, 0, 3)),
                (bent(TABLE, 0, 3, ((1, 0, ("in", 0)),)), ("value", 0, 0, 1)),
                (bent(TABLE, 0, 3, ((1, 0, ("in", 2)),)), ("within", 0, 0, 1)),
                (bent(TABLE, 3, 2, (("in", 1),)), ("within", 3, 0, 3))]
        for table, fault in told:
            self.assertEqual(fault_of(STORY, 1, 5, table), fault, table)

    def test_first_of_several(self):
        """The faults in their sequence: names cell by cell, lacking ones, entries, values, room."""
        table = bent(bent(TABLE, 0, 0, (0, 5)), 1, 1, 0)
        self.assertEqual(fault_of(STORY, 1, 5, table), ("record", 0))
        table = bent(bent(TABLE, 1, 1, 0), 2, 0, (5, 5))
        self.assertEqual(fault_of(STORY, 1, 5, table), ("begin", 1))
        table = bent(bent(TABLE, 0, 1, 1), 2, 0, (5, 5))
        self.assertEqual(fault_of(STORY, 1, 5, table), ("record", 2))
        table = bent(bent(TABLE, 0, 2, (4,)), 2, 3, ((2, 0, 1),))
        self.assertEqual(fault_of(STORY, 1, 5, table), ("entry", 2, 0))
        many = tuple((version, 0, value) for version, value in [(1, ("in", 1))])
        table = bent(bent(TABLE, 0, 3, many), 2, 2, (8,))
        self.assertEqual(fault_of(STORY, 1, 1, table), ("value", 2, 0, 3))

    def test_room(self):
        story = [(version, [("set", 0, 0, version)]) for version in range(6)]
        table = (((0, 0), 0, (None,), tuple((version + 1, 0, version) for version in range(6))),)
        for room in range(1, 9):
            self.assertEqual(fault_of(story, 1, room, table), None if room >= 6 else ("room", 0))
        # Two leads and no entries: they count where they begin behind the beginning alone.
        story = [(0, [("make", (None,)), ("set", 0, 0, ("to", 1))]), (1, [("set", 1, 0, ("to", 1))]), (2, [])]
        table = (((0, 0), 0, (None,), ((1, 0, ("in", 1)),)), ((1, 1), 1, (None,), ((2, 0, ("in", 1)),)))
        self.assertEqual(fault_of(story, 1, 1, table), ("room", 1))
        self.assertIsNone(fault_of(story, 1, 2, table))

    def test_right_though_no_cells_makes_it(self):
        # The records' cells in another sequence, an entry that tells nothing new, and a beginning that is not needed.
        story = [(0, []), (1, [("set", 0, 0, 5)]), (2, [("make", (1,))])]
        table = (((3, 1), 3, (1,), ()), ((0, 0), 3, (5,), ()), ((0, 0), 0, (None,), ((1, 0, None), (2, 0, 5))))
        self.assertIsNone(fault_of(story, 1, 2, table))
        self.assertEqual(fault_of(story, 1, 1, table), ("room", 2))

    def test_no_table_by_its_form(self):
        cell = TABLE[0]
        bad = [list(TABLE), TABLE + (None,), TABLE + (list(cell),), TABLE + (cell[:3],), TABLE + (cell + (1,),)]
        for name in [None, (0,), [0, 0], (0, 0, 0), (True, 0), (0, False), (-1, 0), (0, -1), ("0", 0), (0, None)]:
            bad.append(bent(TABLE, 0, 0, name))
        for version in [None, True, -1, 4, "0", 10 ** 18, (0,)]:
            bad.append(bent(TABLE, 0, 1, version))
            bad.append(bent(TABLE, 0, 3, ((version, 0, None),)))
        for value in [True, "x", ("in", 4), ("in", -1), ("in", True), ("to", 0), ("in",), ["in", 0], ("in", 0, 0), 10 ** 18]:
            bad.append(bent(TABLE, 0, 2, (value,)))
            bad.append(bent(TABLE, 0, 3, ((1, 0, value),)))
        for values in [(), (None, None), [None], None]:
            bad.append(bent(TABLE, 0, 2, values))
        for entries in [None, [], [(1, 0, None)], ([1, 0, None],), ((1, 0),), ((1, 0, None, 0),), (1,), ((1, 1, None),),
                        ((1, True, None),), ((1, -1, None),)]:
            bad.append(bent(TABLE, 0, 3, entries))
        for table in bad + [value for value in odd_values() if value != ()]:
            with self.assertRaises(BadTable):
                fault_of(STORY, 1, 5, table)
        self.assertEqual(fault_of(story=STORY, wide=1, room=5, table=TABLE), None)

    def test_errors_in_their_sequence(self):
        for bad in not_numbers(1, 6):
            with self.assertRaises(BadWide):
                fault_of(None, bad, None, None)
        for bad in [value for value in odd_values() if value not in ([], ())] + [[(1, [])], [(0, [("set", 0, 1, 0)])]]:
            with self.assertRaises(BadStory):
                fault_of(bad, 1, None, None)
        for bad in not_numbers(1):
            with self.assertRaises(BadRoom):
                fault_of(STORY, 1, bad, None)

    def test_long_story(self):
        story = [(version, [("set", 0, 0, version)]) for version in range(1999)]
        cells = Cells(1, 8, 1)
        for parent, deed in story:
            cells.deed(parent, deed)
        self.assertIsNone(fault_of(story, 1, 8, cells.cells()))
        self.assertEqual(fault_of(story, 1, 3, cells.cells()), ("room", 0))


if __name__ == "__main__":
    unittest.main()
