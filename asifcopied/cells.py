"""A keeper of all versions of a heap in cells of bounded size, which split."""

from asifcopied.changes import check_deed, done
from asifcopied.checks import check_wide, is_between, is_from, is_list
from asifcopied.errors import BadCell, BadField, BadMost, BadRecord, BadRoom, BadVersion, BadWay
from asifcopied.errors import NoWay, TooPointed
from asifcopied.growth import Growth
from asifcopied.heaps import count_pointed, is_lead
from asifcopied.labels import MOST_BITS, Labels
from asifcopied.lines import climbs_to, count_first


class Cell:
    """The values of one record from a beginning on, entries for later versions, and the leads to it."""

    def __init__(self, name, beginning, held):
        self.name = name
        self.beginning = beginning
        self.held = held
        # For each field the pairs of a version and a value, by the line.
        self.later = [[] for _ in held]
        # Each lead to this cell: the cell it is in, the version at which it begins, its field.
        self.leads = {}


class Cells:
    """A keeper of all versions of a heap, in cells that have at most room things each."""

    def __init__(self, wide, room, most):
        check_wide(wide)
        if not is_from(room, 1):
            raise BadRoom("room is a number from 1 on")
        if not is_from(most, 1):
            raise BadMost("most is a number from 1 on")
        self.wide = wide
        self.room = room
        self.most = most
        self._growth = Growth()
        self._order = Labels(MOST_BITS)
        self._cells = [Cell((0, 0), 0, [None] * wide)]
        # The numbers of each record's cells, by the line.
        self._rows = {(0, 0): [0]}
        self._splits = 0
        # The cells that got things since it was last seen to that none has too many.
        self._grown = {}

    def _check_field(self, field):
        if not is_between(field, 0, self.wide - 1):
            raise BadField("a field is a number below wide")

    def _check_cell(self, cell):
        if not is_between(cell, 0, len(self._cells) - 1):
            raise BadCell("a cell is the number of one that is there")

    def _check_pointed(self, heap):
        for record, count in enumerate(count_pointed(heap)):
            if count > self.most:
                raise TooPointed(record)

    def _stand(self, parent):
        """Let a new version stand in the line."""
        self._order.put(parent)

    def _stands_by(self, one, other):
        """Whether one is other or stands ahead of it in the line."""
        return self._order.label(one) <= self._order.label(other)

    def _cells_by(self, name, version):
        """How many of the record's cells begin at the version or ahead of it."""
        row = self._rows[name]
        return count_first(len(row), lambda at: self._stands_by(self._cells[row[at]].beginning, version))

    def _cell_at(self, name, version):
        """The number of the record's cell that has the version, at which the record is there."""
        row = self._rows[name]
        # Most records have one cell, which is not looked for.
        return row[0] if len(row) == 1 else row[self._cells_by(name, version) - 1]

    def _cell_of(self, record, version):
        """The number of the cell that has the version, of the record with this number there."""
        return self._cell_at((self._growth.maker(version, record), record), version)

    def _has(self, number, version):
        """Whether the cell has the version."""
        name = self._cells[number].name
        return climbs_to(self._growth.elders, version, name[0]) and self._cell_at(name, version) == number

    def _entries_by(self, entries, version):
        """How many of a field's entries stand at the version or ahead of it."""
        return count_first(len(entries), lambda at: self._stands_by(entries[at][0], version))

    def _in_force(self, number, field, version):
        """The pair of the version at which what is in force begins, and of what is in force."""
        cell = self._cells[number]
        later = cell.later[field]
        many = self._entries_by(later, version) if later else 0
        if many == 0:
            return cell.beginning, cell.held[field]
        return later[many - 1]

    def _plain(self, value):
        """The plain value that a value or a lead stands for."""
        return ("to", self._cells[value[1]].name[1]) if is_lead(value) else value

    def _leading(self, value, version):
        """The value, or a lead to the cell that has the version, for a plain value at a version."""
        return ("in", self._cell_of(value[1], version)) if is_lead(value) else value

    def _heap(self, version):
        """The plain heap of the version."""
        rows = []
        for name in self._growth.made(version):
            cell = self._cell_at(name, version)
            held = [self._in_force(cell, field, version)[1] for field in range(self.wide)]
            rows.append(tuple([self._plain(value) for value in held]))
        return tuple(rows)

    def _tie(self, number, field, version, value):
        """Let the cell to which a lead leads, if it is one, know of it."""
        if is_lead(value):
            self._cells[value[1]].leads[(number, version, field)] = True
            self._grown[value[1]] = True

    def _untie(self, number, field, version, value):
        """Let the cell to which a lead led, if it was one, know that it is gone."""
        if is_lead(value):
            self._cells[value[1]].leads.pop((number, version, field))

    def _begin(self, name, version, held):
        """The number of a new cell of the record."""
        number = len(self._cells)
        self._cells.append(Cell(name, version, [None] * self.wide))
        self._rows.setdefault(name, [])
        self._rows[name].insert(self._cells_by(name, version), number)
        self._fill(number, held)
        return number

    def _fill(self, number, held):
        """Give a cell the values at its beginning."""
        cell = self._cells[number]
        cell.held = list(held)
        for field in range(self.wide):
            self._tie(number, field, cell.beginning, held[field])

    def _put(self, number, field, version, value):
        """Put an entry into a cell that has none for the field at the version."""
        entries = self._cells[number].later[field]
        entries.insert(self._entries_by(entries, version), (version, value))
        self._tie(number, field, version, value)
        self._grown[number] = True

    def _turn(self, elder, fresh, key):
        """Let a lead to the elder cell lead to the new one."""
        self._cells[elder].leads.pop(key)
        number, version, field = key
        cell = self._cells[number]
        if version == cell.beginning:
            cell.held[field] = ("in", fresh)
        else:
            entries = cell.later[field]
            entries[self._entries_by(entries, version) - 1] = (version, ("in", fresh))
        self._tie(number, field, version, ("in", fresh))

    def _straddle(self, fresh, key):
        """Let a lead that is in force where the new cell begins lead to it from there on."""
        number, begun, field = key
        version = self._cells[fresh].beginning
        if self._has(number, version) and self._in_force(number, field, version)[0] == begun:
            self._put(number, field, version, ("in", fresh))

    def _write(self, number, field, version, value, behind):
        """Put the entry of a written field, and ahead of it one that keeps what the next version reads."""
        if behind is not None and self._has(number, behind):
            begun, until = self._in_force(number, field, behind)
            if begun != behind:
                self._put(number, field, behind, until)
        self._put(number, field, version, value)

    def _write_row(self, record, row, later, version, behind):
        """Write the fields of a record that hold later something else than they held in the row ahead."""
        cell = self._cell_of(record, version)
        for field in range(self.wide):
            if later[field] != row[field]:
                self._write(cell, field, version, self._leading(later[field], version), behind)

    def _things(self, number):
        """The versions of the cell's things, in no sequence."""
        cell = self._cells[number]
        leads = [version for _, version, _ in cell.leads if version != cell.beginning]
        return leads + [version for entries in cell.later for version, _ in entries]

    def _middle(self, number):
        """The version of the thing in the middle."""
        versions = self._things(number)
        return sorted(versions, key=lambda version: self._order.label(version))[len(versions) // 2]

    def _cut(self, number, version):
        """Take the entries at a version and behind it off a cell: those behind it, for each field."""
        cell = self._cells[number]
        gone = []
        for field, entries in enumerate(list(cell.later)):
            many = self._entries_by(entries, version)
            at_it = 1 if many > 0 and entries[many - 1][0] == version else 0
            for begun, value in entries[many - at_it:]:
                self._untie(number, field, begun, value)
            cell.later[field] = entries[:many - at_it]
            gone.append(entries[many:])
        return gone

    def _split(self, number, version):
        """Split a cell at a version of its own, not its beginning."""
        name = self._cells[number].name
        held = self._held_anew(number, version)
        behind = self._cut(number, version)
        fresh = self._begin(name, version, held)
        self._hand_over(fresh, behind)
        self._lead_anew(number, fresh)
        self._splits += 1

    def _held_anew(self, number, version):
        """The list of the values at the beginning of a cell that is split off at the version."""
        return [self._in_force(number, field, version)[1] for field in range(self.wide)]

    def _hand_over(self, fresh, behind):
        """Give a new cell the entries that stand behind its beginning."""
        for field, entries in enumerate(behind):
            for begun, value in entries:
                self._put(fresh, field, begun, value)

    def _lead_anew(self, elder, fresh):
        """Let what leads to the elder cell at a version that is now the new cell's lead to the new one."""
        version = self._cells[fresh].beginning
        keys = sorted(self._cells[elder].leads)
        for key in keys:
            if self._stands_by(version, key[1]):
                self._turn(elder, fresh, key)
            else:
                self._straddle(fresh, key)

    def _settle(self):
        """Split cells as long as some cell has more than room things."""
        over = self._over()
        while over:
            self._split(over[0], self._middle(over[0]))
            over = self._over()

    def _over(self):
        """The ascending list of the cells that have more than room things."""
        over = [number for number in sorted(self._grown) if len(self._things(number)) > self.room]
        self._grown = {number: True for number in over}
        return over

    def deed(self, version, changes):
        """The number of a new version, which the changes make out of the version."""
        self._growth.check(version)
        check_deed(changes, self.wide, self._growth.counts[version])
        ahead = self._heap(version)
        return self.grow(version, ahead, done(ahead, changes))

    def grow(self, version, ahead, heap):
        """The number of a new version, which has the heap where the version has the one ahead of it."""
        self._check_pointed(heap)
        self._stand(version)
        fresh = self._growth.grow(version, len(heap))
        made = range(len(ahead), len(heap))
        for record in made:
            self._begin((fresh, record), fresh, [None] * self.wide)
        for record in made:
            held = [self._leading(value, fresh) for value in heap[record]]
            self._fill(self._cell_at((fresh, record), fresh), held)
        behind = self._order.behind(fresh)
        for record, row in enumerate(ahead):
            if heap[record] != row:
                self._write_row(record, row, heap[record], fresh, behind)
        self._settle()
        return fresh

    def split(self, cell, version):
        """Split a cell by hand."""
        self._check_cell(cell)
        self._growth.check(version)
        if version == self._cells[cell].beginning or not self._has(cell, version):
            raise BadVersion("a cell is split at a version of its own, not its beginning")
        self._split(cell, version)
        self._settle()

    def many(self, version):
        """How many records are there at the version."""
        self._growth.check(version)
        return self._growth.counts[version]

    def read(self, version, record, field):
        """The plain value that the field holds at the version."""
        self._growth.check(version)
        if not is_between(record, 0, self._growth.counts[version] - 1):
            raise BadRecord("a record is the number of one that is there")
        self._check_field(field)
        return self._plain(self._in_force(self._cell_of(record, version), field, version)[1])

    def heap(self, version):
        """The plain heap of the version."""
        self._growth.check(version)
        return self._heap(version)

    def root(self, version):
        """The number of the root's cell that has the version."""
        self._growth.check(version)
        return self._cell_at((0, 0), version)

    def step(self, version, cell, field):
        """What is in force in a field of a cell that has the version."""
        self._growth.check(version)
        self._check_cell(cell)
        if not self._has(cell, version):
            raise BadCell("the cell has not this version")
        self._check_field(field)
        return self._in_force(cell, field, version)[1]

    def walk(self, version, way):
        """What the steps along the way come to."""
        self._growth.check(version)
        if not is_list(way) or not all([is_between(field, 0, self.wide - 1) for field in way]):
            raise BadWay("a way is a list of fields")
        here = ("in", self.root(version))
        for at, field in enumerate(way):
            if not is_lead(here):
                raise NoWay(at)
            here = self._in_force(here[1], field, version)[1]
        return here

    def shown(self, version):
        """What is seen from the root by steps alone."""
        row = [self.root(version)]
        numbers = {row[0]: 0}
        heap = []
        while len(heap) < len(row):
            held = [self._shown(row[len(heap)], field, version) for field in range(self.wide)]
            for value in held:
                if is_lead(value) and value[1] not in numbers:
                    numbers[value[1]] = len(row)
                    row.append(value[1])
            heap.append(tuple([("to", numbers[value[1]]) if is_lead(value) else value for value in held]))
        return tuple(heap)

    def _shown(self, number, field, version):
        """What a field of a cell shows at the version."""
        return self._in_force(number, field, version)[1]

    def line(self):
        """The tuple of the versions in their line."""
        return tuple(self._order.row())

    def parents(self):
        """The tuple of the parents of all versions."""
        return tuple(self._growth.elders)

    def cells(self):
        """The tuple, for each cell, of its name, its beginning, its values and its entries."""
        rows = []
        for cell in self._cells:
            entries = [(version, field, value) for field in range(self.wide) for version, value in cell.later[field]]
            entries = sorted(entries, key=lambda entry: (self._order.label(entry[0]), entry[1]))
            rows.append((cell.name, cell.beginning, tuple(cell.held), tuple(entries)))
        return tuple(rows)

    def splits(self):
        """How many cells were split so far."""
        return self._splits

    def things(self, cell):
        """How many things the cell has."""
        self._check_cell(cell)
        return len(self._things(cell))

    def pointing(self, cell):
        """The ascending list of all leads to the cell."""
        self._check_cell(cell)
        return sorted(self._cells[cell].leads)
