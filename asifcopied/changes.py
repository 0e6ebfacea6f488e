"""Changes, deeds and stories, and the plain meaning of a story: a heap of its own for each version."""

from asifcopied.checks import check_heap, check_wide, is_between, is_list, is_pair, is_row, is_value
from asifcopied.errors import BadDeed, BadStory, BadVersion


def is_set(change, wide, many):
    """Whether any value is a change of a field in a heap of so many records."""
    if not isinstance(change, tuple) or len(change) != 4 or change[0] != "set":
        return False
    _, record, field, value = change
    return is_between(record, 0, many - 1) and is_between(field, 0, wide - 1) and is_value(value, many)


def is_make(change, wide, many):
    """Whether any value is a change that makes a record, which may lead to itself."""
    return is_pair(change) and change[0] == "make" and is_row(change[1], wide, many + 1)


def check_deed(deed, wide, many):
    """How many records there are behind the deed: whether it can be done hangs on their number alone."""
    if not is_list(deed):
        raise BadDeed(None)
    for at, change in enumerate(deed):
        if is_make(change, wide, many):
            many += 1
        elif not is_set(change, wide, many):
            raise BadDeed(at)
    return many


def with_field(row, field, value):
    """A record with another value in one field."""
    return row[:field] + (value,) + row[field + 1:]


def done(heap, deed):
    """The heap behind a deed that is known to be one that can be done."""
    rows = list(heap)
    for change in deed:
        if change[0] == "make":
            rows.append(change[1])
        else:
            _, record, field, value = change
            rows[record] = with_field(rows[record], field, value)
    return tuple(rows)


def after(heap, deed, wide):
    """The heap behind the deed."""
    check_heap(heap, wide)
    check_deed(deed, wide, len(heap))
    return done(heap, deed)


def first_heap(wide):
    """The heap of version 0."""
    return ((None,) * wide,)


def are_parents(value):
    """Whether any value is the tuple of the parents of all versions of some tree."""
    if not isinstance(value, tuple) or not value or value[0] is not None:
        return False
    return all([is_between(value[version], 0, version - 1) for version in range(1, len(value))])


def is_story(value, wide):
    """Whether any value is a story."""
    check_wide(wide)
    if not is_list(value):
        return False
    counts = [1]
    for pair in value:
        if not is_pair(pair) or not is_between(pair[0], 0, len(counts) - 1):
            return False
        try:
            counts.append(check_deed(pair[1], wide, counts[pair[0]]))
        except BadDeed:
            return False
    return True


def check_story(story, wide):
    """Refuse a bad wide, and then what is no story."""
    if not is_story(story, wide):
        raise BadStory("a story is a list of pairs of a parent and a deed that can be done there")


def parents_of(story, wide):
    """The tuple of the parents of all versions."""
    check_story(story, wide)
    return tuple([None] + [parent for parent, _ in story])


def heaps_of(story, wide):
    """The tuple of the heaps of all versions."""
    check_story(story, wide)
    heaps = [first_heap(wide)]
    for parent, deed in story:
        heaps.append(done(heaps[parent], deed))
    return tuple(heaps)


def heap_by(story, wide, version):
    """The heap of a version that is known to be one of the story."""
    way = []
    while version > 0:
        parent, deed = story[version - 1]
        way.append(deed)
        version = parent
    changes = []
    for deed in reversed(way):
        changes.extend(deed)
    return done(first_heap(wide), changes)


def heap_at(story, wide, version):
    """The heap of one version."""
    check_story(story, wide)
    if not is_between(version, 0, len(story)):
        raise BadVersion("a version is the number of one of the story")
    return heap_by(story, wide, version)
