"""A course as it goes on: its heap, the slots that are used, and the cells that are begun."""

from asifcopied.heaps import is_lead
from asifcopied.lines import count_first


class Track:
    """The heap at the newest version of a course, which fields lead to each record, and the used slots."""

    def __init__(self, wide):
        self.wide = wide
        self.rows = [[None] * wide]
        # For each record the fields that lead to it, as pairs of a record and a field.
        self.leads = [{}]
        self.taken = [0]

    def put(self, record, field, value):
        """Give a field its value."""
        elder = self.rows[record][field]
        if is_lead(elder):
            self.leads[elder[1]].pop((record, field))
        self.rows[record][field] = value
        if is_lead(value):
            self.leads[value[1]][(record, field)] = True

    def make(self, values):
        """Put a record behind all others."""
        record = len(self.rows)
        self.rows.append([None] * self.wide)
        self.leads.append({})
        for field, value in enumerate(values):
            self.put(record, field, value)

    def advance(self, changes):
        """Do a deed that can be done: the ascending list of the fields of elder records that it touches.

        Until the version is settled, the elder records are those that have used slots.
        """
        ahead = {}
        for change in changes:
            if change[0] == "make":
                self.make(change[1])
            else:
                _, record, field, value = change
                if record < len(self.taken):
                    ahead.setdefault((record, field), self.rows[record][field])
                self.put(record, field, value)
        return sorted([(record, field) for record, field in ahead
                       if self.rows[record][field] != ahead[(record, field)]])

    def leading(self, record):
        """The list of the fields of elder records that lead to the record."""
        return [pair for pair in self.leads[record] if pair[0] < len(self.taken)]

    def due(self, touched, extra):
        """The list of the elder records that have to be copied, in the sequence in which they are added."""
        counts = {}
        moved = {}
        waiting = list(touched)
        added = []
        while waiting:
            pair = waiting.pop()
            if pair in moved:
                continue
            moved[pair] = True
            record = pair[0]
            counts[record] = counts.get(record, 0) + 1
            # Used slots come one by one, so each record gets past the last slot just once.
            if self.taken[record] + counts[record] == extra + 1:
                added.append(record)
                waiting.extend(self.leading(record))
        return added

    def settle(self, touched, copied):
        """Copy the records, and use slots for the moved fields of the others: the ascending list of these."""
        moved = {pair: True for pair in touched}
        for record in copied:
            for pair in self.leading(record):
                moved[pair] = True
        gone = {record: True for record in copied}
        fields = sorted([pair for pair in moved if pair[0] not in gone])
        for record, _ in fields:
            self.taken[record] += 1
        for record in copied:
            self.taken[record] = 0
        self.taken.extend([0] * (len(self.rows) - len(self.taken)))
        return fields


class CopiedCell:
    """The values of a record at the version that began the cell, and triples for its later values."""

    def __init__(self, record, version, held):
        self.record = record
        self.version = version
        self.held = held
        self.later = []

    def told(self):
        """The cell as a tuple."""
        return self.record, self.version, self.held, tuple(self.later)

    def value(self, version, field):
        """What the field holds at a version of the cell."""
        return value_in(self.held, self.later, version, field)


def value_in(held, later, version, field):
    """What the last entry of the field tells that is not of a later version, or what it began with."""
    value = held[field]
    for begun, at, worth in later:
        if begun > version:
            break
        if at == field:
            value = worth
    return value


class Shelf:
    """All cells of a course, by the version that began them, then by record."""

    def __init__(self):
        self.begun = []
        # The numbers of each record's cells.
        self.rows = []

    def leading(self, value):
        """The value, or a pointer to the newest cell of the record to which it leads."""
        return ("to", self.rows[value[1]][-1]) if is_lead(value) else value

    def shelve(self, version, records, fields, rows):
        """Begin cells of these records, and give entries to these fields, as the version's rows tell."""
        for at, record in enumerate(records):
            if record == len(self.rows):
                self.rows.append([])
            self.rows[record].append(len(self.begun) + at)
        for record in records:
            held = tuple([self.leading(value) for value in rows[record]])
            self.begun.append(CopiedCell(record, version, held))
        for record, field in fields:
            cell = self.begun[self.rows[record][-1]]
            cell.later.append((version, field, self.leading(rows[record][field])))

    def cell_at(self, record, version):
        """The record's last cell that was begun at the version or ahead of it."""
        row = self.rows[record]
        return self.begun[row[count_first(len(row), lambda at: self.begun[row[at]].version <= version) - 1]]

    def value(self, version, record, field):
        """The plain value that the field of the record holds at the version."""
        value = self.cell_at(record, version).value(version, field)
        return ("to", self.begun[value[1]].record) if is_lead(value) else value

    def told(self):
        """The tuple of all cells."""
        return tuple([cell.told() for cell in self.begun])
