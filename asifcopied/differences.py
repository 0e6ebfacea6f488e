"""What two versions have unlike, and the least deed that makes one heap out of another."""

from asifcopied.changes import heap_by, parents_of
from asifcopied.checks import check_heap
from asifcopied.heaps import is_lead
from asifcopied.lines import meet


def is_shared(value, common):
    """Whether a value means the same wherever the records below common are the same: no pointer to another one."""
    return not is_lead(value) or value[1] < common


def unlike(story, wide, one, other):
    """How many records two versions have in common, and the ascending list of the fields of these that are unlike."""
    common = len(heap_by(story, wide, meet(parents_of(story, wide), one, other)))
    told = []
    for record, (row, there) in enumerate(zip(heap_by(story, wide, one)[:common], heap_by(story, wide, other))):
        for field in range(wide):
            if row[field] != there[field] or not is_shared(row[field], common):
                told.append((record, field, row[field], there[field]))
    return common, told


def least_found(one, other, wide):
    """The list of the changes of a least deed, None if there is none.

    A record can lead to itself and to those that are there when it is made; other pointers of it are set behind.
    """
    if len(other) < len(one):
        return None
    changes = []
    later = []
    for record in range(len(one), len(other)):
        values = [value if is_shared(value, record + 1) else None for value in other[record]]
        changes.append(("make", tuple(values)))
        later.extend([("set", record, field, value) for field, value in enumerate(other[record])
                      if not is_shared(value, record + 1)])
    for record, row in enumerate(one):
        later.extend([("set", record, field, other[record][field]) for field in range(wide)
                      if row[field] != other[record][field]])
    return changes + later


def least_deed(one, other, wide):
    """A deed with as few changes as any that makes the heap other out of the heap one, None if there is none."""
    check_heap(one, wide)
    check_heap(other, wide)
    return least_found(one, other, wide)


def least_changes(one, other, wide):
    """How many changes such a deed has, None if there is none."""
    changes = least_deed(one, other, wide)
    return None if changes is None else len(changes)
