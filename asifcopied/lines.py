"""The line of versions: each version stands right behind its parent when it comes."""

from asifcopied.changes import are_parents
from asifcopied.checks import is_between, is_number
from asifcopied.errors import BadLine, BadParents, BadVersion


def check_parents(parents):
    """Refuse what is no tuple of parents."""
    if not are_parents(parents):
        raise BadParents("parents are None and a number below its own place for each further version")


def check_version(parents, version):
    """Refuse what is no version of these parents, a tuple or a list."""
    if not is_between(version, 0, len(parents) - 1):
        raise BadVersion("a version is the number of one that is there")


def lined(parents):
    """The list of the versions in their line."""
    behind = [None] * len(parents)
    for version in range(1, len(parents)):
        parent = parents[version]
        behind[version] = behind[parent]
        behind[parent] = version
    line = []
    version = 0
    while version is not None:
        line.append(version)
        version = behind[version]
    return line


def places_of(line):
    """The list of the places of all versions in their line."""
    places = [0] * len(line)
    for at, version in enumerate(line):
        places[version] = at
    return places


def climbs_to(parents, one, other):
    """Whether one comes of other: parents have lesser numbers, so the way up can end below other."""
    while one > other:
        one = parents[one]
    return one == other


def stretch_in(line, version):
    """The places of the first and the last version that come of version.

    They stand together, version first, and are just those behind it up to a lesser number.
    """
    first = line.index(version)
    last = first
    while last + 1 < len(line) and line[last + 1] > version:
        last += 1
    return first, last


def count_first(many, holds):
    """How many of the places 0 to many - 1 hold, where none that holds is behind one that does not."""
    low, high = 0, many
    while low < high:
        middle = (low + high) // 2
        if holds(middle):
            low = middle + 1
        else:
            high = middle
    return low


def line_of(parents):
    """The tuple of the versions in their line."""
    check_parents(parents)
    return tuple(lined(parents))


def place(parents, version):
    """The place of a version in the line."""
    check_parents(parents)
    check_version(parents, version)
    return lined(parents).index(version)


def is_ahead(parents, one, other):
    """Whether one stands ahead of other in the line."""
    check_parents(parents)
    check_version(parents, one)
    check_version(parents, other)
    places = places_of(lined(parents))
    return places[one] < places[other]


def next_in_line(parents, version):
    """The version right behind a version, None behind the last one."""
    check_parents(parents)
    check_version(parents, version)
    line = lined(parents)
    at = line.index(version) + 1
    return line[at] if at < len(line) else None


def comes_of(parents, one, other):
    """Whether one comes of other."""
    check_parents(parents)
    check_version(parents, one)
    check_version(parents, other)
    return climbs_to(parents, one, other)


def stretch(parents, version):
    """The pair of the places of the first and of the last version that come of version."""
    check_parents(parents)
    check_version(parents, version)
    return stretch_in(lined(parents), version)


def meet(parents, one, other):
    """The greatest version of which both come."""
    check_parents(parents)
    check_version(parents, one)
    check_version(parents, other)
    while one != other:
        if one > other:
            one = parents[one]
        else:
            other = parents[other]
    return one


def is_line(value):
    """Whether any value is the line of some tree."""
    if not isinstance(value, tuple) or not value:
        return False
    if not all([is_number(version) for version in value]):
        return False
    return value[0] == 0 and sorted(value) == list(range(len(value)))


def tree_of(line):
    """The parents of the one tree that has this line.

    The parent of a version is the nearest one ahead of it that has a lesser number.
    """
    if not is_line(line):
        raise BadLine("a line is a tuple of the numbers from 0 on, each once, 0 first")
    parents = [None] * len(line)
    lesser = [0]
    for version in line[1:]:
        while lesser[-1] > version:
            lesser.pop()
        parents[version] = lesser[-1]
        lesser.append(version)
    return tuple(parents)
