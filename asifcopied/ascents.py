"""Ways up from versions to the first one, jumps by which they are short, and who made a record."""

from asifcopied.changes import check_story
from asifcopied.checks import is_between, is_from, is_list
from asifcopied.errors import BadDepth, BadLeast, BadMarks, BadRecord
from asifcopied.growth import Growth
from asifcopied.lines import check_parents, check_version, lined, meet, places_of


def climbed(parents, version, end):
    """The list of the versions from the version up to end, which is above it; end is left out."""
    way = []
    while version != end:
        way.append(version)
        version = parents[version]
    return way


def depths_of(parents):
    """The list of the depths of all versions."""
    told = [0] * len(parents)
    for version in range(1, len(parents)):
        told[version] = told[parents[version]] + 1
    return told


def way_up(parents, version):
    """The tuple of the version, its parent, and so on, to 0."""
    check_parents(parents)
    check_version(parents, version)
    return tuple(climbed(parents, version, None))


def depths(parents):
    """The tuple of how many versions behind the first one are on the way up of each version."""
    check_parents(parents)
    return tuple(depths_of(parents))


def way_between(parents, one, other):
    """The pair of the versions from one up to the meet, and from below it down to other."""
    top = meet(parents, one, other)
    return tuple(climbed(parents, one, top)), tuple(reversed(climbed(parents, other, top)))


def shallowest_between(parents, one, other):
    """The first of the least deep versions behind the one that stands ahead, up to the other one."""
    check_parents(parents)
    check_version(parents, one)
    check_version(parents, other)
    if one == other:
        return None
    line = lined(parents)
    places = places_of(line)
    first, last = sorted([places[one], places[other]])
    told = depths_of(parents)
    return min(line[first + 1:last + 1], key=lambda version: told[version])


class Jumps:
    """Two pointers for each version, to its parent and further up, by which each version above is found soon."""

    def __init__(self):
        self._elders = [None]
        self._jumps = [0]
        self._depths = [0]

    def _check(self, version):
        check_version(self._elders, version)

    def grow(self, parent):
        """Make a child of the version, and tell its number."""
        self._check(parent)
        middle = self._jumps[parent]
        top = self._jumps[middle]
        is_alike = self._depths[parent] - self._depths[middle] == self._depths[middle] - self._depths[top]
        self._elders.append(parent)
        self._jumps.append(top if is_alike else parent)
        self._depths.append(self._depths[parent] + 1)
        return len(self._elders) - 1

    def many(self):
        """How many versions there are."""
        return len(self._elders)

    def parents(self):
        """The tuple of the parents of all versions."""
        return tuple(self._elders)

    def jump(self, version):
        """Where the second pointer of the version leads."""
        self._check(version)
        return self._jumps[version]

    def up(self, version, depth):
        """The pair of the version above at this depth, and of how many steps lead there."""
        self._check(version)
        if not is_between(depth, 0, self._depths[version]):
            raise BadDepth("a depth is a number from 0 to that of the version")
        steps = 0
        while self._depths[version] > depth:
            jump = self._jumps[version]
            version = jump if self._depths[jump] >= depth else self._elders[version]
            steps += 1
        return version, steps

    def first_with(self, version, marks, least):
        """The shallowest version on the way up whose mark is at least least, None if there is none."""
        self._check(version)
        if not self._are_marks(marks):
            raise BadMarks("marks are numbers from 0 on, one for each version, that do not fall below the parent's")
        if not is_from(least, 0):
            raise BadLeast("least is a number from 0 on")
        if marks[version] < least:
            return None
        while version > 0 and marks[self._elders[version]] >= least:
            jump = self._jumps[version]
            version = jump if marks[jump] >= least else self._elders[version]
        return version

    def _are_marks(self, marks):
        """Whether any value is marks of all versions."""
        if not is_list(marks) or len(marks) != len(self._elders) or not all([is_from(mark, 0) for mark in marks]):
            return False
        return all([marks[self._elders[at]] <= marks[at] for at in range(1, len(marks))])


def grown(story):
    """How the tree of a story that is one has grown: how many records each version has, and who made them."""
    growth = Growth()
    for parent, deed in story:
        growth.grow(parent, growth.counts[parent] + len([1 for change in deed if change[0] == "make"]))
    return growth


def check_place(growth, version, record):
    """Refuse what is no version, and then what is no record of its heap."""
    growth.check(version)
    if not is_between(record, 0, growth.counts[version] - 1):
        raise BadRecord("a record is that of one in the heap of the version")


def maker(story, wide, version, record):
    """The version, on the way up, whose deed made the record; 0 for the root."""
    check_story(story, wide)
    growth = grown(story)
    check_place(growth, version, record)
    return growth.maker(version, record)
