"""A keeper of all versions by entries: each field has one wherever, along the line, its value begins."""

from asifcopied.changes import check_deed, with_field
from asifcopied.checks import check_wide, is_between, is_held, is_number, is_pair
from asifcopied.errors import BadEntries, BadField, BadMany, BadName, BadValues, NoEntry, NoRecord
from asifcopied.growth import Growth, Line
from asifcopied.heaps import seen_from_root
from asifcopied.lines import check_parents, check_version, climbs_to, count_first, lined, places_of, stretch_in


def up_to(entries, places, version):
    """How many of the entries stand at the version or ahead of it."""
    return count_first(len(entries), lambda at: places[entries[at][0]] <= places[version])


def are_entries(value, places):
    """Whether any value is entries, for versions that have these places in their line."""
    if not isinstance(value, tuple):
        return False
    last = -1
    for entry in value:
        if not is_pair(entry) or not is_between(entry[0], 0, len(places) - 1) or not is_held(entry[1]):
            return False
        if places[entry[0]] <= last:
            return False
        last = places[entry[0]]
    return True


def descent(parents, made):
    """The versions that come of made, as they stand in the line."""
    line = lined(parents)
    first, last = stretch_in(line, made)
    return line[first:last + 1]


def check_values(values, versions):
    """Refuse what is no dict from just these versions to values."""
    if not isinstance(values, dict) or not all([is_number(version) for version in values]):
        raise BadValues("the keys are numbers of versions")
    if sorted(values) != sorted(versions):
        raise BadValues("the keys are just the versions that come of made")
    if not all([is_held(values[version]) for version in versions]):
        raise BadValues("a value is None, a number, or a pointer")


def read_entries(parents, entries, version):
    """What the entries tell at the version: the value of the nearest one."""
    check_parents(parents)
    places = places_of(lined(parents))
    if not are_entries(entries, places):
        raise BadEntries("entries are pairs of a version and a value, in the sequence of the line")
    check_version(parents, version)
    many = up_to(entries, places, version)
    if many == 0:
        raise NoEntry("all entries stand behind the version")
    return entries[many - 1][1]


def is_right(parents, made, values, entries):
    """Whether any value is entries of versions that come of made, and they tell what is due at each."""
    check_parents(parents)
    check_version(parents, made)
    versions = descent(parents, made)
    check_values(values, versions)
    if not are_entries(entries, places_of(lined(parents))):
        return False
    told = {version: value for version, value in entries}
    if made not in told or not all([version in values for version in told]):
        return False
    value = told[made]
    for version in versions:
        value = told.get(version, value)
        if value != values[version]:
            return False
    return True


def least_entries(parents, made, values):
    """The entries of made, and of each further version at which the value changes along the line."""
    check_parents(parents)
    check_version(parents, made)
    versions = descent(parents, made)
    check_values(values, versions)
    entries = [(made, values[made])]
    for version in versions:
        if values[version] != entries[-1][1]:
            entries.append((version, values[version]))
    return tuple(entries)


def dear_story(many):
    """A story for one field in which each change takes two entries."""
    if not is_between(many, 0, 900):
        raise BadMany("many is a number from 0 to 900")
    row = [(version, []) for version in range(many)]
    return row + [(version, [("set", 0, 0, 1)]) for version in range(many)]


def written(changes, many):
    """The dict of what a deed writes at last into fields of elder records, and the list of those that it makes."""
    fields = {}
    rows = []
    for change in changes:
        if change[0] == "make":
            rows.append(change[1])
        elif change[1] < many:
            fields[(change[1], change[2])] = change[3]
        else:
            rows[change[1] - many] = with_field(rows[change[1] - many], change[2], change[3])
    return fields, rows


def write_entry(entries, places, version, value, behind):
    """Put an entry of another value at a version that has none, and let behind read what it read.

    behind is the next version behind it at which the field is read, None if there is none; what stands between them
    reads nothing here. The entries stay the least ones.
    """
    at = up_to(entries, places, version)
    until = entries[at - 1][1]
    if until == value:
        return
    entries.insert(at, (version, value))
    if behind is None:
        return
    if at + 1 == len(entries) or entries[at + 1][0] != behind:
        entries.insert(at + 1, (behind, until))
    elif entries[at + 1][1] == value:
        del entries[at + 1]


class Fat:
    """A keeper of all versions of a heap: the entries of each field are the least ones."""

    def __init__(self, wide):
        check_wide(wide)
        self.wide = wide
        self._growth = Growth()
        self._deeds = [[]]
        self._line = Line()
        self._entries = {(0, 0): [[(0, None)] for _ in range(wide)]}

    def _names(self, version):
        """The names of the version's records, by their numbers."""
        return [self._named(maker, record) for maker, record in self._growth.made(version)]

    def _named(self, maker, record):
        """The name of a record, by the version that made it and its number."""
        return maker, record - self._growth.first(maker)

    def _held(self, name, field, version):
        """What the field of the record with this name holds at a version at which it is there."""
        entries = self._entries[name][field]
        return entries[up_to(entries, self._line.labels, version) - 1][1]

    def _heap(self, version):
        """The version's heap."""
        fields = range(self.wide)
        names = self._names(version)
        return tuple([tuple([self._held(name, field, version) for field in fields]) for name in names])

    def _check_record(self, version, record):
        self._growth.check(version)
        if not is_between(record, 0, self._growth.counts[version] - 1):
            raise NoRecord(record)

    def _check_field(self, field):
        if not is_between(field, 0, self.wide - 1):
            raise BadField("a field is a number below wide")

    def _check_name(self, name):
        if not is_pair(name) or not is_between(name[0], 0, len(self._deeds) - 1):
            raise BadName("a name is a pair of a version and which of its records is meant")
        if not is_between(name[1], 0, self._growth.counts[name[0]] - self._growth.first(name[0]) - 1):
            raise BadName("the version has made no such record")

    def _write_all(self, parent, fresh, fields):
        """Give the fields, a dict by record and field, of elder records their values at the new version."""
        behind = self._line.nexts[fresh]
        # What stands right behind a version is a child of one on its way up: they share that one's records.
        common = 0 if behind is None else self._growth.first(behind)
        for (record, field), value in fields.items():
            name = self._named(self._growth.maker(parent, record), record)
            later = behind if record < common else None
            write_entry(self._entries[name][field], self._line.labels, fresh, value, later)

    def deed(self, version, changes):
        """The number of a new version, which the changes make out of the version."""
        self._growth.check(version)
        many = self._growth.counts[version]
        count = check_deed(changes, self.wide, many)
        fresh = self._growth.grow(version, count)
        self._line.put(version)
        self._deeds.append(list(changes))
        fields, rows = written(changes, many)
        self._write_all(version, fresh, fields)
        for which, row in enumerate(rows):
            self._entries[(fresh, which)] = [[(fresh, value)] for value in row]
        return fresh

    def heap(self, version):
        """The version's heap."""
        self._growth.check(version)
        return self._heap(version)

    def look(self, version):
        """What is seen of the version's heap."""
        self._growth.check(version)
        return seen_from_root(self._heap(version))

    def many(self, version):
        """How many records the version has."""
        self._growth.check(version)
        return self._growth.counts[version]

    def read(self, version, record, field):
        """What the field holds at the version."""
        self._check_record(version, record)
        self._check_field(field)
        return self._held(self.name(version, record), field, version)

    def parents(self):
        """The tuple of the parents of all versions."""
        return tuple(self._growth.elders)

    def line(self):
        """The tuple of the versions in their line."""
        return tuple(self._line.row())

    def story(self):
        """The story that made the versions."""
        elders = self._growth.elders
        return [(elders[version], list(self._deeds[version])) for version in range(1, len(elders))]

    def name(self, version, record):
        """The name of the record that has this number at the version."""
        self._check_record(version, record)
        return self._named(self._growth.maker(version, record), record)

    def number(self, version, name):
        """The number of the record with this name at the version, None if it is not there."""
        self._growth.check(version)
        self._check_name(name)
        if not climbs_to(self._growth.elders, version, name[0]):
            return None
        return self._growth.first(name[0]) + name[1]

    def entries(self, name, field):
        """The entries of a field of the record with this name."""
        self._check_name(name)
        self._check_field(field)
        return tuple(self._entries[name][field])

    def count(self):
        """How many entries all fields of all records have together."""
        return sum([len(entries) for fields in self._entries.values() for entries in fields])
