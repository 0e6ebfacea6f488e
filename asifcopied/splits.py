"""A judge of cells: whether a table of cells is right for a story, whoever wrote it."""

from asifcopied.changes import check_story, heaps_of, parents_of
from asifcopied.checks import is_between, is_from, is_number, is_pair
from asifcopied.errors import BadRoom, BadTable
from asifcopied.heaps import is_lead
from asifcopied.lines import lined, places_of


def is_kept(value, many):
    """Whether any value is None, a number, or a lead to one of so many cells."""
    if is_pair(value):
        return value[0] == "in" and is_between(value[1], 0, many - 1)
    return value is None or is_number(value)


def is_entry(value, wide, versions, many):
    """Whether any value is an entry by its form."""
    if not isinstance(value, tuple) or len(value) != 3:
        return False
    version, field, held = value
    return is_between(version, 0, versions - 1) and is_between(field, 0, wide - 1) and is_kept(held, many)


def is_cell(value, wide, versions, many):
    """Whether any value is a cell by its form, in a table of so many cells."""
    if not isinstance(value, tuple) or len(value) != 4:
        return False
    name, beginning, held, entries = value
    if not is_pair(name) or not is_from(name[0], 0) or not is_from(name[1], 0):
        return False
    if not is_between(beginning, 0, versions - 1):
        return False
    if not isinstance(held, tuple) or len(held) != wide or not isinstance(entries, tuple):
        return False
    if not all([is_kept(worth, many) for worth in held]):
        return False
    return all([is_entry(entry, wide, versions, many) for entry in entries])


def is_table(value, wide, versions):
    """Whether any value is a table of cells by its form."""
    if not isinstance(value, tuple):
        return False
    return all([is_cell(cell, wide, versions, len(value)) for cell in value])


def ends_of(parents, places):
    """The list of the places right behind all that comes of each version."""
    sizes = [1] * len(parents)
    for version in range(len(parents) - 1, 0, -1):
        sizes[parents[version]] += sizes[version]
    return [place + size for place, size in zip(places, sizes)]


class Judge:
    """What the judge knows of the story and of the table: places of versions, heaps, spans of cells."""

    def __init__(self, story, wide, table):
        self.wide = wide
        self.table = table
        self.heaps = heaps_of(story, wide)
        self.elders = parents_of(story, wide)
        self.order = lined(self.elders)
        self.places = places_of(self.order)
        self.ends = ends_of(self.elders, self.places)
        # For each cell the place of its first version, and the place behind its last one.
        self.spans = []

    def made(self, version):
        """The list of the numbers of the records that the version makes."""
        first = 0 if version == 0 else len(self.heaps[self.elders[version]])
        return list(range(first, len(self.heaps[version])))

    def is_made(self, name):
        """Whether a record of the story has the name."""
        return name[0] < len(self.heaps) and name[1] in self.made(name[0])

    def is_there(self, name, version):
        """Whether the record with this name is there at the version."""
        return self.places[name[0]] <= self.places[version] < self.ends[name[0]]

    def fault_of_names(self):
        """The first cell without a record, or with a beginning that cannot be."""
        begun = {}
        for number, cell in enumerate(self.table):
            name, beginning = cell[0], cell[1]
            if not self.is_made(name):
                return ("record", number)
            if not self.is_there(name, beginning) or (name, beginning) in begun:
                return ("begin", number)
            begun[(name, beginning)] = True
        for version in range(len(self.heaps)):
            for record in self.made(version):
                if ((version, record), version) not in begun:
                    return ("lacking", (version, record))
        return None

    def span_all(self):
        """Find the spans of the cells: a cell has its versions up to the next one of its record."""
        rows = {}
        for cell in self.table:
            rows.setdefault(cell[0], []).append(self.places[cell[1]])
        nexts = {}
        for name in rows:
            begins = sorted(rows[name])
            for first, behind in zip(begins, begins[1:] + [self.ends[name[0]]]):
                nexts[(name, first)] = behind
        firsts = [(cell[0], self.places[cell[1]]) for cell in self.table]
        self.spans = [(first, nexts[(name, first)]) for name, first in firsts]

    def has(self, number, place):
        """Whether the cell has the version at this place."""
        first, end = self.spans[number]
        return first <= place < end

    def fault_of_entries(self, number):
        """The first entry that does not stand where it may."""
        # An entry stands at a further version than the beginning, behind whose fields all stand.
        ahead = (self.spans[number][0], self.wide)
        for at, (version, field, _) in enumerate(self.table[number][3]):
            here = (self.places[version], field)
            if not self.has(number, here[0]) or here <= ahead:
                return ("entry", number, at)
            ahead = here
        return None

    def fault_of_value(self, number, field):
        """The first version at which something else is in force than the plain value."""
        (_, record), _, held, entries = self.table[number]
        later = {version: value for version, at, value in entries if at == field}
        value = held[field]
        first, end = self.spans[number]
        for place in range(first, end):
            version = self.order[place]
            value = later.get(version, value)
            plain = ("to", self.table[value[1]][0][1]) if is_lead(value) else value
            if plain != self.heaps[version][record][field]:
                return ("value", number, field, version)
            if is_lead(value) and not self.has(value[1], place):
                return ("within", number, field, version)
        return None

    def things(self):
        """The list of how many things each cell has."""
        counts = [len(cell[3]) for cell in self.table]
        for _, beginning, held, entries in self.table:
            leads = [(beginning, value) for value in held] + [(version, value) for version, _, value in entries]
            for version, value in leads:
                if is_lead(value) and self.places[version] > self.spans[value[1]][0]:
                    counts[value[1]] += 1
        return counts

    def fault_within(self):
        """The first fault of entries, and then of what is in force."""
        for number in range(len(self.table)):
            fault = self.fault_of_entries(number)
            if fault is not None:
                return fault
        for number in range(len(self.table)):
            for field in range(self.wide):
                fault = self.fault_of_value(number, field)
                if fault is not None:
                    return fault
        return None

    def first_fault(self, room):
        """The first fault of the table, None if it is right."""
        fault = self.fault_of_names()
        if fault is not None:
            return fault
        self.span_all()
        fault = self.fault_within()
        if fault is not None:
            return fault
        for number, count in enumerate(self.things()):
            if count > room:
                return ("room", number)
        return None


def fault_of(story, wide, room, table):
    """The first fault of a table of cells for the story, None if it is right."""
    check_story(story, wide)
    if not is_from(room, 1):
        raise BadRoom("room is a number from 1 on")
    if not is_table(table, wide, len(story) + 1):
        raise BadTable("a table is a tuple of cells: a name, a beginning, values and entries")
    return Judge(story, wide, table).first_fault(room)
