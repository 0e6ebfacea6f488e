"""The tree of versions as it grows, and which version made each record."""

from asifcopied.lines import check_version


class Growth:
    """The parents of all versions, and how many records each version has."""

    def __init__(self):
        self.elders = [None]
        self.counts = [1]

    def check(self, version):
        """Refuse what is no version."""
        check_version(self.elders, version)

    def grow(self, parent, count):
        """The number of a new version."""
        self.elders.append(parent)
        self.counts.append(count)
        return len(self.elders) - 1

    def first(self, version):
        """The number of the first record that the version's deed made, if it made any."""
        parent = self.elders[version]
        return 0 if parent is None else self.counts[parent]

    def maker(self, version, record):
        """The version that made the record with this number at the version."""
        while record < self.first(version):
            version = self.elders[version]
        return version

    def made(self, version):
        """The pairs of the maker and the number of each of the version's records, by their numbers."""
        way = []
        while version is not None:
            way.append(version)
            version = self.elders[version]
        pairs = []
        for maker in reversed(way):
            pairs.extend([(maker, record) for record in range(self.first(maker), self.counts[maker])])
        return pairs
