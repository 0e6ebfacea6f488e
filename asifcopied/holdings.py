"""What a keeper holds of the versions that stand: their row, and the entries of each record that they read."""

from asifcopied.fats import up_to, write_entry


class Row:
    """The versions that stand, in the sequence of the line."""

    def __init__(self, versions):
        self.versions = list(versions)
        self.places = {version: at for at, version in enumerate(self.versions)}

    def put(self, version, fresh):
        """Put a new version right behind the version."""
        self.versions.insert(self.places[version] + 1, fresh)
        self._number()

    def drop(self, version):
        """Take a version out."""
        self.versions.remove(version)
        self._number()

    def _number(self):
        """Tell the places anew."""
        self.places = {version: at for at, version in enumerate(self.versions)}

    def ordered(self, versions):
        """The list of some of the versions as they stand."""
        return sorted(versions, key=lambda version: self.places[version])

    def first_behind(self, version, wanted):
        """The first version behind the version that is wanted, None if there is none."""
        for later in self.versions[self.places[version] + 1:]:
            if later in wanted:
                return later
        return None


def told_at(entries, version, row):
    """What entries tell a reader."""
    return entries[up_to(entries, row.places, version) - 1][1]


class Holding:
    """A record that is read: its name, its number, its readers, and the least entries of each of its fields."""

    def __init__(self, name, number, readers, entries):
        self.name = name
        self.number = number
        self.readers = {version: True for version in readers}
        self.entries = [list(row) for row in entries]

    def value(self, field, version, row):
        """What the field holds at one of the readers."""
        return told_at(self.entries[field], version, row)

    def held(self, version, row):
        """The list of what all fields hold at one of the readers."""
        # Most fields have one entry, which tells all readers: so it is not looked for.
        return [entries[0][1] if len(entries) == 1 else told_at(entries, version, row) for entries in self.entries]

    def write(self, field, version, value, row):
        """Give the field its value at the newest reader, which stands right behind its parent, a reader too."""
        write_entry(self.entries[field], row.places, version, value, row.first_behind(version, self.readers))

    def leave(self, version, row):
        """Let a reader go: what it was told is told to the next reader, unless that one is told another thing."""
        self.readers.pop(version)
        behind = row.first_behind(version, self.readers) if self.readers else None
        for entries in self.entries:
            at = up_to(entries, row.places, version) - 1
            if at >= 0 and entries[at][0] == version:
                hand_on(entries, at, behind)

    def count(self):
        """How many entries the fields have."""
        return sum([len(entries) for entries in self.entries])

    def told(self, row):
        """All that is held, as a content."""
        entries = tuple([tuple(told) for told in self.entries])
        return self.name, self.number, tuple(row.ordered(self.readers)), entries


def hand_on(entries, at, behind):
    """Take away the entry of a reader that goes; behind is the next reader, None if there is none."""
    if behind is None:
        del entries[at]
    elif at + 1 == len(entries) or entries[at + 1][0] != behind:
        entries[at] = (behind, entries[at][1])
    else:
        del entries[at]
        if at > 0 and entries[at - 1][1] == entries[at][1]:
            del entries[at]
