"""What the standing versions of a story read: which records, under which names, and what their fields hold."""

from asifcopied.changes import heaps_of, parents_of
from asifcopied.heaps import is_lead, meet_all
from asifcopied.lines import lined, places_of


def names_of(heaps, parents):
    """The list of the tuples of the names of all records of each version, by their numbers."""
    told = [((0, 0),)]
    for version in range(1, len(heaps)):
        elder = told[parents[version]]
        made = range(len(heaps[version]) - len(elder))
        told.append(elder + tuple([(version, which) for which in made]))
    return told


class Standing:
    """The heaps of a story, the line of its versions, and the readers of each needed record."""

    def __init__(self, story, wide, standing):
        self.wide = wide
        self.heaps = heaps_of(story, wide)
        self.elders = parents_of(story, wide)
        self.places = places_of(lined(self.elders))
        self.names = names_of(self.heaps, self.elders)
        # For each needed record the list of its readers, by the line.
        self.readers = {}
        for version in sorted(standing, key=lambda version: self.places[version]):
            for record in meet_all(self.heaps[version]):
                self.readers.setdefault(self.names[version][record], []).append(version)

    def needed(self):
        """The ascending list of the names of the needed records."""
        return sorted(self.readers)

    def number(self, name):
        """The number of the record with this name, wherever it is there."""
        made, which = name
        return which if made == 0 else len(self.heaps[self.elders[made]]) + which

    def is_named(self, name):
        """Whether a pair of numbers from 0 on is the name of a record of the story."""
        made, which = name
        return made < len(self.heaps) and self.number(name) < len(self.heaps[made])

    def held(self, name, field):
        """The list of what the field holds at each reader of the record."""
        record = self.number(name)
        return [self.heaps[version][record][field] for version in self.readers[name]]

    def least(self, name, field):
        """The list of triples: a reader at which the field has a new value, the reader ahead of it, and the value."""
        told = []
        ahead = None
        until = None
        for version, value in zip(self.readers[name], self.held(name, field)):
            if ahead is None or value != until:
                told.append((version, ahead, value))
            ahead, until = version, value
        return told


def links_from(heap):
    """The dict from each record that the root leads to, to the record and the field by which it is met.

    Records are met by rising lengths of the ways to them, and those of one length by rising ways: so the way along
    these links is the shortest one, and of these the least.
    """
    links = {0: None}
    row = [0]
    at = 0
    while at < len(row):
        for field, value in enumerate(heap[row[at]]):
            if is_lead(value) and value[1] not in links:
                links[value[1]] = (row[at], field)
                row.append(value[1])
        at += 1
    return links


def way_along(links, record, field):
    """The way from the root along the links to the record, and the field behind it."""
    way = [field]
    while links[record] is not None:
        record, ahead = links[record]
        way.append(ahead)
    return tuple(reversed(way))
