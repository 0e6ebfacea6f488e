"""The tree of versions as it grows, which version made each record, and the line of the versions."""

from asifcopied.lines import check_version

# How many labels lie between two versions that are laid anew: so many that many puts in one place need no others.
GAP = 1 << 512


class Growth:
    """The parents of all versions, and how many records each version has."""

    def __init__(self):
        self.elders = [None]
        self.counts = [1]
        # The nearest version on the way up that made records, itself counted: others need not be looked at.
        self.makers = [0]

    def check(self, version):
        """Refuse what is no version."""
        check_version(self.elders, version)

    def grow(self, parent, count):
        """The number of a new version."""
        fresh = len(self.elders)
        self.makers.append(fresh if count > self.counts[parent] else self.makers[parent])
        self.elders.append(parent)
        self.counts.append(count)
        return fresh

    def first(self, version):
        """The number of the first record that the version's deed made, if it made any."""
        parent = self.elders[version]
        return 0 if parent is None else self.counts[parent]

    def maker(self, version, record):
        """The version that made the record with this number at the version."""
        maker = self.makers[version]
        while record < self.first(maker):
            maker = self.makers[self.elders[maker]]
        return maker

    def made(self, version):
        """The pairs of the maker and the number of each of the version's records, by their numbers."""
        way = [self.makers[version]]
        while way[-1] > 0:
            way.append(self.makers[self.elders[way[-1]]])
        pairs = []
        for maker in reversed(way):
            pairs.extend([(maker, record) for record in range(self.first(maker), self.counts[maker])])
        return pairs


class Line:
    """The line of the versions, each with a label: the labels rise along the line."""

    def __init__(self):
        self.labels = [0]
        self.nexts = [None]

    def put(self, version):
        """Put a new version right behind the version."""
        behind = self.nexts[version]
        if behind is not None and self.labels[behind] - self.labels[version] < 2:
            self.spread()
        label = self.labels[version]
        self.labels.append(label + GAP if behind is None else (label + self.labels[behind]) // 2)
        self.nexts.append(behind)
        self.nexts[version] = len(self.nexts) - 1

    def spread(self):
        """Lay all labels anew, with the same gap behind each of them."""
        for at, version in enumerate(self.row()):
            self.labels[version] = at * GAP

    def row(self):
        """The list of the versions as they stand."""
        row = []
        version = 0
        while version is not None:
            row.append(version)
            version = self.nexts[version]
        return row
