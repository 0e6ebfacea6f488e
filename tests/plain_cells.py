"""The words of [40] to [42], read plainly: every lead is looked for in all cells, every heap is a copy."""

from plain import comes_of, plain_copy, plain_pointed


class PlainCell:
    def __init__(self, name, beginning, values):
        self.name = name
        self.beginning = beginning
        self.values = list(values)
        self.entries = {}


class PlainCells:
    def __init__(self, wide, room, most):
        self.wide = wide
        self.room = room
        self.most = most
        self.parents = [None]
        self.line = [0]
        self.heaps = [((None,) * wide,)]
        self.names = [[(0, 0)]]
        self.cells = [PlainCell((0, 0), 0, [None] * wide)]
        self.splits = 0

    def ahead(self, one, other):
        return self.line.index(one) < self.line.index(other)

    def versions(self, number):
        """The versions of a cell, by the line."""
        cell = self.cells[number]
        begins = [other.beginning for other in self.cells if other.name == cell.name]
        told = []
        for version in self.line[self.line.index(cell.beginning):]:
            if not comes_of(self.parents, version, cell.name[0]):
                break
            if told and version in begins:
                break
            told.append(version)
        return told

    def with_version(self, name, version):
        numbers = [number for number, cell in enumerate(self.cells)
                   if cell.name == name and version in self.versions(number)]
        assert len(numbers) == 1
        return numbers[0]

    def in_force(self, number, field, version):
        """The version at which it begins, and the value."""
        cell = self.cells[number]
        told = (cell.beginning, cell.values[field])
        for here in self.line[:self.line.index(version) + 1]:
            if (here, field) in cell.entries:
                told = (here, cell.entries[here, field])
        return told

    def leads(self):
        """All leads: (cell, version, field, the cell to which it leads)."""
        told = []
        for number, cell in enumerate(self.cells):
            rows = [(cell.beginning, field, value) for field, value in enumerate(cell.values)]
            rows += [(version, field, value) for (version, field), value in cell.entries.items()]
            told += [(number, version, field, value[1]) for version, field, value in rows if isinstance(value, tuple)]
        return sorted(told)

    def things(self, number):
        """The versions of the things, by the line."""
        cell = self.cells[number]
        told = [version for version, _ in cell.entries]
        told += [version for _, version, _, to in self.leads() if to == number and version != cell.beginning]
        return sorted(told, key=self.line.index)

    def lead(self, value, version):
        if not isinstance(value, tuple):
            return value
        return ("in", self.with_version(self.names[version][value[1]], version))

    def split(self, number, s):
        elder = self.cells[number]
        held = [self.in_force(number, field, s)[1] for field in range(self.wide)]
        in_force = [(c, v, f) for c, v, f, to in self.leads() if to == number and self.ahead(v, s)
                    and c != number and s in self.versions(c) and self.in_force(c, f, s)[0] == v]
        fresh = len(self.cells)
        cell = PlainCell(elder.name, s, held)
        self.cells.append(cell)
        for key in list(elder.entries):
            if not self.ahead(key[0], s):
                value = elder.entries.pop(key)
                if key[0] != s:
                    cell.entries[key] = value
        for c, v, f, to in self.leads():
            if to == number and not self.ahead(v, s):
                if v == self.cells[c].beginning:
                    self.cells[c].values[f] = ("in", fresh)
                else:
                    self.cells[c].entries[v, f] = ("in", fresh)
        for c, v, f in in_force:
            assert (s, f) not in self.cells[c].entries
            self.cells[c].entries[s, f] = ("in", fresh)
        self.splits += 1

    def settle(self):
        while True:
            over = [number for number in range(len(self.cells)) if len(self.things(number)) > self.room]
            if not over:
                return
            things = self.things(over[0])
            self.split(over[0], things[len(things) // 2])

    def deed(self, version, changes):
        ahead = self.heaps[version]
        heap = plain_copy(ahead, changes)
        assert max(plain_pointed(heap)) <= self.most
        w = len(self.heaps)
        at = self.line.index(version) + 1
        u = self.line[at] if at < len(self.line) else None
        self.line.insert(at, w)
        self.parents.append(version)
        self.heaps.append(heap)
        made = range(len(ahead), len(heap))
        self.names.append(self.names[version] + [(w, record) for record in made])
        begun = {}
        for record in made:
            begun[record] = len(self.cells)
            self.cells.append(PlainCell((w, record), w, [None] * self.wide))
        for record in made:
            self.cells[begun[record]].values = [self.lead(value, w) for value in heap[record]]
        for record in range(len(ahead)):
            for field in range(self.wide):
                if heap[record][field] == ahead[record][field]:
                    continue
                number = self.with_version(self.names[w][record], w)
                cell = self.cells[number]
                if u is not None and u in self.versions(number) and (u, field) not in cell.entries:
                    cell.entries[u, field] = self.in_force(number, field, u)[1]
                cell.entries[w, field] = self.lead(heap[record][field], w)
        self.settle()
        return w

    def table(self):
        """What cells() is to tell."""
        rows = []
        for cell in self.cells:
            keys = sorted(cell.entries, key=lambda key: (self.line.index(key[0]), key[1]))
            entries = tuple((version, field, cell.entries[version, field]) for version, field in keys)
            rows.append((cell.name, cell.beginning, tuple(cell.values), entries))
        return tuple(rows)
