"""Versions that are dropped: what must be kept for those that stand, and a keeper that gives back the rest."""

from asifcopied.changes import check_story, is_make, is_set
from asifcopied.checks import check_wide, is_between, is_from, is_list, is_number, is_pair
from asifcopied.copying import is_ascending
from asifcopied.errors import BadDeed, BadField, BadMany, BadName, BadRows, BadStanding, BadVersion, NoRecord
from asifcopied.fats import are_entries, written
from asifcopied.heaps import is_lead, seen_from_root
from asifcopied.holdings import Holding, Row
from asifcopied.standings import Standing, links_from, way_along


def is_standing(value, many):
    """Whether any value is an ascending tuple of unlike versions, of which there are so many."""
    if not is_from(many, 1):
        raise BadMany("many is a number from 1 on")
    return is_ascending(value, many)


def stood(story, wide, standing):
    """What the standing versions read, if all of this is right."""
    check_story(story, wide)
    if not is_standing(standing, len(story) + 1):
        raise BadStanding("standing is an ascending tuple of versions of the story")
    return Standing(story, wide, standing)


def is_name(value):
    """Whether any value is a name by its form."""
    return is_pair(value) and is_from(value[0], 0) and is_from(value[1], 0)


def needed(story, wide, standing):
    """The ascending tuple of the names of the needed records."""
    return tuple(stood(story, wide, standing).needed())


def readers(story, wide, standing, name):
    """The tuple of the versions that read the record with this name, in the sequence of the line."""
    past = stood(story, wide, standing)
    if not is_name(name) or name not in past.readers:
        raise BadName("a name is that of a needed record")
    return tuple(past.readers[name])


def is_kept_row(value, past):
    """Whether any value is a triple of a name, a field, and entries."""
    if not isinstance(value, tuple) or len(value) != 3:
        return False
    name, field, entries = value
    if not is_name(name) or not past.is_named(name) or not is_between(field, 0, past.wide - 1):
        return False
    return are_entries(entries, past.places) and len(entries) > 0


def are_rows(value, past):
    """Whether any value is rows for the story."""
    if not isinstance(value, tuple) or not all([is_kept_row(row, past) for row in value]):
        return False
    return all([value[at][:2] < value[at + 1][:2] for at in range(len(value) - 1)])


def is_found(entries, versions, held, places):
    """Whether each of the versions, as they stand in the line, finds in the entries what is held there."""
    at = -1
    for version, value in zip(versions, held):
        while at + 1 < len(entries) and places[entries[at + 1][0]] <= places[version]:
            at += 1
        if at < 0 or entries[at][1] != value:
            return False
    return True


def serves(story, wide, standing, rows):
    """Whether each reader of each needed record finds in the rows what its plain heap holds."""
    past = stood(story, wide, standing)
    if not are_rows(rows, past):
        raise BadRows("rows are ascending triples of a name, a field and entries")
    told = {(name, field): entries for name, field, entries in rows}
    for name in past.readers:
        for field in range(wide):
            entries = told.get((name, field), ())
            if not is_found(entries, past.readers[name], past.held(name, field), past.places):
                return False
    return True


def least_rows(story, wide, standing):
    """The rows that have, for each field of each needed record, as few entries as serve."""
    past = stood(story, wide, standing)
    rows = []
    for name in past.needed():
        for field in range(wide):
            entries = [(version, value) for version, _, value in past.least(name, field)]
            rows.append((name, field, tuple(entries)))
    return tuple(rows)


def is_reason(value, past):
    """Whether any value is a reason by itself."""
    if not isinstance(value, tuple) or len(value) != 4:
        return False
    name, field, ahead, version = value
    if not is_name(name) or name not in past.readers or not is_between(field, 0, past.wide - 1):
        return False
    if not is_number(version) or version not in past.readers[name]:
        return False
    if ahead is None:
        return True
    if not is_number(ahead) or ahead not in past.readers[name] or past.places[ahead] >= past.places[version]:
        return False
    record = past.number(name)
    return past.heaps[ahead][record][field] != past.heaps[version][record][field]


def are_in_sequence(one, other, places):
    """Whether a reason may stand right behind another one."""
    if one[:2] != other[:2]:
        return one[:2] < other[:2]
    ahead = other[2]
    return ahead is not None and places[one[3]] <= places[ahead]


def are_reasons(story, wide, standing, value):
    """Whether any value are reasons: as many entries, at least, are in all rows that serve."""
    past = stood(story, wide, standing)
    if not isinstance(value, tuple) or not all([is_reason(reason, past) for reason in value]):
        return False
    return all([are_in_sequence(value[at], value[at + 1], past.places) for at in range(len(value) - 1)])


def most_reasons(story, wide, standing):
    """As many reasons as the least rows have entries."""
    past = stood(story, wide, standing)
    reasons = []
    for name in past.needed():
        for field in range(wide):
            reasons.extend([(name, field, ahead, version) for version, ahead, _ in past.least(name, field)])
    return tuple(reasons)


def questions(story, wide, standing):
    """For each entry of the least rows a version and a way by which it is told that the entry is there."""
    past = stood(story, wide, standing)
    told = []
    # By versions, so that the links of one heap at a time are held.
    asked = {}
    for name in past.needed():
        for field in range(wide):
            for version, _, _ in past.least(name, field):
                asked.setdefault(version, []).append((len(told), past.number(name), field))
                told.append(None)
    for version in asked:
        links = links_from(past.heaps[version])
        for at, record, field in asked[version]:
            told[at] = (version, way_along(links, record, field))
    return tuple(told)


def spoken_of(change):
    """The list of the records of which a change speaks: the one that is set, and those to which values lead."""
    values = change[1] if change[0] == "make" else change[3:]
    records = [value[1] for value in values if is_lead(value)]
    return records + ([change[1]] if change[0] == "set" else [])


class Kept:
    """A keeper of the versions that stand: it gives back what none of them needs."""

    def __init__(self, wide):
        check_wide(wide)
        self.wide = wide
        self._total = 1
        self._row = Row([0])
        # How many records the plain heap of each version has.
        self._counts = {0: 1}
        root = Holding((0, 0), 0, [0], [[(0, None)] for _ in range(wide)])
        # For each version the records that it reads, by their numbers; and all records that are read, by their names.
        self._reads = {0: {0: root}}
        self._holdings = {root.name: root}

    def _check(self, version):
        if not is_number(version) or version not in self._counts:
            raise BadVersion("a version is the number of one that stands")

    def standing(self):
        """The ascending tuple of the versions that stand."""
        return tuple(sorted(self._counts))

    def total(self):
        """How many versions were made."""
        return self._total

    def many(self, version):
        """How many records the plain heap of the version has."""
        self._check(version)
        return self._counts[version]

    def reaches(self, version):
        """The ascending tuple of the records to which the root leads."""
        self._check(version)
        return tuple(sorted(self._reads[version]))

    def read(self, version, record, field):
        """What the field of a record to which the root leads holds at the version."""
        self._check(version)
        if not is_number(record) or record not in self._reads[version]:
            raise NoRecord(record)
        if not is_between(field, 0, self.wide - 1):
            raise BadField("a field is a number below wide")
        return self._reads[version][record].value(field, version, self._row)

    def look(self, version):
        """What is seen of the version."""
        self._check(version)
        reads = self._reads[version]
        return seen_from_root({record: reads[record].held(version, self._row) for record in reads})

    def refuse(self, version, changes):
        """Raise what a deed with these changes would raise, and do nothing."""
        self._check(version)
        if not is_list(changes):
            raise BadDeed(None)
        elders = self._counts[version]
        many = elders
        for at, change in enumerate(changes):
            is_made = is_make(change, self.wide, many)
            if not is_made and not is_set(change, self.wide, many):
                raise BadDeed(at)
            if not all([record >= elders or record in self._reads[version] for record in spoken_of(change)]):
                raise BadDeed(at)
            many += 1 if is_made else 0

    def _is_leading_away(self, version, fields):
        """Whether the fields, with their values behind a deed, lead away from some record."""
        for (record, field), value in fields.items():
            elder = self._reads[version][record].value(field, version, self._row)
            if is_lead(elder) and elder != value:
                return True
        return False

    def _met(self, version, fields, rows):
        """The dict of the records to which the root leads behind a deed at the version."""
        elders = self._counts[version]
        reads = self._reads[version]
        changed = {}
        for (record, field), value in fields.items():
            changed.setdefault(record, []).append((field, value))
        if self._is_leading_away(version, fields):
            met = {}
            waiting = [0]
        else:
            # What the version reads is read on: only what comes to it is looked for.
            met = {record: True for record in reads}
            waiting = [value[1] for value in fields.values() if is_lead(value)]
        while waiting:
            record = waiting.pop()
            if record in met:
                continue
            met[record] = True
            held = rows[record - elders] if record >= elders else reads[record].held(version, self._row)
            for field, value in changed.get(record, ()):
                held[field] = value
            waiting.extend([value[1] for value in held if is_lead(value)])
        return met

    def deed(self, version, changes):
        """The number of a new version, which the changes make out of the version."""
        self.refuse(version, changes)
        elders = self._counts[version]
        fields, rows = written(changes, elders)
        met = self._met(version, fields, rows)
        fresh = self._total
        self._total += 1
        self._row.put(version, fresh)
        self._counts[fresh] = elders + len(rows)
        reads = {record: self._reads[version][record] for record in met if record < elders}
        for holding in reads.values():
            holding.readers[fresh] = True
        for (record, field), value in fields.items():
            if record in met:
                reads[record].write(field, fresh, value, self._row)
        self._reads[fresh] = reads
        for which, row in enumerate(rows):
            if elders + which in met:
                self._hold((fresh, which), elders + which, row)
        return fresh

    def _hold(self, name, record, row):
        """Hold a new record, which the version that made it reads."""
        made = name[0]
        holding = Holding(name, record, [made], [[(made, value)] for value in row])
        self._holdings[name] = holding
        self._reads[made][record] = holding

    def drop(self, version):
        """Let the version stand no longer."""
        self._check(version)
        reads = self._reads.pop(version)
        for holding in list(reads.values()):
            holding.leave(version, self._row)
            if not holding.readers:
                self._holdings.pop(holding.name)
        self._counts.pop(version)
        self._row.drop(version)

    def kept_rows(self):
        """The rows that are kept."""
        rows = []
        for name in sorted(self._holdings):
            for field, entries in enumerate(self._holdings[name].entries):
                rows.append((name, field, tuple(entries)))
        return tuple(rows)

    def count(self):
        """How many entries the rows have."""
        return sum([holding.count() for holding in self._holdings.values()])

    def state(self):
        """A tuple of contents that holds all that is here."""
        versions = tuple([(version, self._counts[version]) for version in self._row.versions])
        holdings = tuple([self._holdings[name].told(self._row) for name in sorted(self._holdings)])
        return self.wide, self._total, versions, holdings

    def restore(self, total, versions, holdings):
        """Hold what a state tells, and nothing else."""
        self._total = total
        self._row = Row([version for version, _ in versions])
        self._counts = {version: count for version, count in versions}
        self._reads = {version: {} for version, _ in versions}
        self._holdings = {}
        for name, number, told, entries in holdings:
            holding = Holding(name, number, told, entries)
            self._holdings[name] = holding
            for version in told:
                self._reads[version][number] = holding


def kept_of(state):
    """A new Kept that holds what a state tells."""
    wide, total, versions, holdings = state
    kept = Kept(wide)
    kept.restore(total, versions, holdings)
    return kept
