"""The words of [110], read plainly: cells that do not mind one rule."""

from plain import plain_copy, plain_heaps, plain_pointed
from plain_cells import PlainCell, PlainCells


class PlainCare(PlainCells):
    def __init__(self, wide, room, most, without):
        PlainCells.__init__(self, wide, room, most)
        self.without = without
        # Leads that went over to a new cell while "backs" is not minded: (cell, version, field).
        self.forgotten = set()

    def meant(self, name, version):
        """The record's cell that has the version, or the last one that begins at it or ahead of it."""
        numbers = [number for number, cell in enumerate(self.cells)
                   if cell.name == name and version in self.versions(number)]
        if numbers or self.without != "child":
            assert len(numbers) == 1
            return numbers[0]
        begun = [(self.line.index(cell.beginning), number) for number, cell in enumerate(self.cells)
                 if cell.name == name and not self.ahead(version, cell.beginning)]
        return max(begun)[1]

    def leads(self):
        return [lead for lead in PlainCells.leads(self) if lead[:3] not in self.forgotten]

    def things(self, number):
        return [version for version in PlainCells.things(self, number) if version in self.versions(number)]

    def lead(self, value, version):
        if not isinstance(value, tuple):
            return value
        name = self.names[version][value[1]]
        if self.without == "met":
            firsts = [number for number, cell in enumerate(self.cells) if cell.name == name and cell.beginning == name[0]]
            return ("in", firsts[0])
        return ("in", self.meant(name, version))

    def values_at(self, number, s):
        if self.without != "values":
            return [self.in_force(number, field, s)[1] for field in range(self.wide)]
        cell, told = self.cells[number], []
        for field in range(self.wide):
            versions = sorted([version for version, at in cell.entries if at == field], key=self.line.index)
            told.append(cell.entries[versions[-1], field] if versions else cell.values[field])
        return told

    def split(self, number, s):
        elder, fresh = self.cells[number], len(self.cells)
        leads = [lead[:3] for lead in self.leads() if lead[3] == number]
        straddling = [(c, v, f) for c, v, f in leads if c != number and self.ahead(v, s)
                      and s in self.versions(c) and self.in_force(c, f, s)[0] == v]
        cell = PlainCell(elder.name, s, self.values_at(number, s))
        moved = {key: elder.entries.pop(key) for key in list(elder.entries) if not self.ahead(key[0], s)}
        self.cells.append(cell)
        if self.without != "over":
            cell.entries = {key: value for key, value in moved.items() if key[0] != s}
        if self.without == "backs":
            self.forgotten |= {(fresh, s, field) for field in range(self.wide)}
            self.forgotten |= {(fresh, version, field) for version, field in cell.entries}
        if self.without != "turned":
            self.turn(number, fresh, s)
        if self.without != "straddling":
            for c, v, f in straddling:
                self.cells[c].entries[s, f] = ("in", fresh)
        self.splits += 1

    def turn(self, number, fresh, s):
        for c, v, f, to in self.leads():
            if to == number and not self.ahead(v, s):
                if v == self.cells[c].beginning:
                    self.cells[c].values[f] = ("in", fresh)
                else:
                    self.cells[c].entries[v, f] = ("in", fresh)

    def deed_between(self, version, ahead, heap):
        """A deed, the heaps ahead of it and behind it being told."""
        w = len(self.heaps)
        at = len(self.line) if self.without == "child" else self.line.index(version) + 1
        u = self.line[at] if at < len(self.line) else None
        self.line.insert(at, w)
        self.parents.append(version)
        self.heaps.append(heap)
        made = range(len(ahead), len(heap))
        self.names.append(self.names[version] + [(w, record) for record in made])
        begun = {record: len(self.cells) + at for at, record in enumerate(made)}
        self.cells += [PlainCell((w, record), w, [None] * self.wide) for record in made]
        for record in made:
            self.cells[begun[record]].values = [self.lead(value, w) for value in heap[record]]
        for record in range(len(ahead)):
            for field in range(self.wide):
                if heap[record][field] != ahead[record][field]:
                    self.put(self.meant(self.names[w][record], w), field, w, u, heap[record][field])
        self.settle()

    def put(self, number, field, w, u, value):
        cell = self.cells[number]
        if self.without != "behind" and u is not None and u in self.versions(number) and (u, field) not in cell.entries:
            cell.entries[u, field] = self.in_force(number, field, u)[1]
        cell.entries[w, field] = self.lead(value, w)

    def showing(self, number, field, version):
        """What a field of a cell shows at a version."""
        cell = self.cells[number]
        entries = [(cell.beginning, cell.values[field])]
        entries += [(at, value) for (at, where), value in cell.entries.items() if where == field]
        if self.without == "nearest":
            fits = [(at, value) for at, value in entries if at <= version]
            return [value for at, value in fits if at == max(one for one, _ in fits)][0] if fits else None
        fits = [(self.line.index(at), value) for at, value in entries if not self.ahead(version, at)]
        return [value for at, value in fits if at == max(one for one, _ in fits)][0] if fits else None

    def shown(self, version):
        row = [self.meant((0, 0), version)]
        for number in row:
            for field in range(self.wide):
                value = self.showing(number, field, version)
                if isinstance(value, tuple) and value[1] not in row:
                    row.append(value[1])
        return tuple(tuple(("to", row.index(value[1])) if isinstance(value, tuple) else value
                           for value in [self.showing(number, field, version) for field in range(self.wide)])
                     for number in row)


def plain_seen_without(wide, room, most, without, story):
    """What is shown of all versions, or the record to which too many fields point."""
    cells, heaps = PlainCare(wide, room, most, without), plain_heaps(story, wide)
    for parent, deed in story:
        heap = plain_copy(heaps[parent], deed)
        for record, count in enumerate(plain_pointed(heap)):
            if count > most:
                return record
        cells.deed_between(parent, heaps[parent], heap)
    return tuple(cells.shown(version) for version in range(len(heaps)))
