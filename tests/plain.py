"""Plain readings of the document, written apart from the package, against which the tests hold it."""

import itertools
import random

from asifcopied.cells import Cells
from asifcopied.errors import BadDeed
from asifcopied.fats import Fat
from asifcopied.labels import Labels

GREATEST = 10 ** 18 - 1


def odd_values():
    """Values of all kinds that callers may pass anywhere."""
    deep = ()
    for _ in range(59):
        deep = (deep,)
    return [None, True, False, 0, 1, -1, 2, 5, GREATEST, -GREATEST, GREATEST + 1, -GREATEST - 1, 10 ** 30,
            "", "0", "to", "set", (), [], {}, (0,), [0], (None,), ((None,),), [[None]], (("to", 0),),
            ("to", 0), ("to", True), ["to", 0], {"to": 0}, {0: None}, {True: 1}, (True,), ((True,),),
            deep, Labels(3), Fat(1), Cells(1, 1, 1), BadDeed(1), ("in", 0), (0, 0), (0, None), ((0, None),)]


def not_numbers(least=None, most=None):
    """Odd values that are no number from least to most."""
    odd = [None, True, False, "", "1", (), (1,), [], [1], {}, {1: 1}, 10 ** 18, -10 ** 18, Labels(2)]
    if least is not None:
        odd += [least - 1, least - 7]
    if most is not None:
        odd += [most + 1, most + 7]
    return odd


def trees(many):
    """All tuples of parents of so many versions."""
    rows = itertools.product(*[range(version) for version in range(1, many)])
    return [(None,) + tuple(row) for row in rows]


def small_trees():
    return [parents for many in range(1, 7) for parents in trees(many)]


def drawn_tree(rng, many):
    return (None,) + tuple(rng.randrange(version) for version in range(1, many))


def plain_line(parents):
    line = [0]
    for version in range(1, len(parents)):
        line.insert(line.index(parents[version]) + 1, version)
    return line


def way_up(parents, version):
    way = []
    while version is not None:
        way.append(version)
        version = parents[version]
    return way


def comes_of(parents, one, other):
    return other in way_up(parents, one)


def plain_copy(heap, deed):
    """The heap behind a deed, or None if it cannot be done."""
    rows = [list(row) for row in heap]
    for change in deed:
        if change[0] == "make":
            rows.append(list(change[1]))
        else:
            _, record, field, value = change
            rows[record][field] = value
    return tuple(tuple(row) for row in rows)


def plain_heaps(story, wide):
    heaps = [((None,) * wide,)]
    for parent, deed in story:
        heaps.append(plain_copy(heaps[parent], deed))
    return heaps


def plain_pointed(heap):
    counts = [0] * len(heap)
    for row in heap:
        for value in row:
            if isinstance(value, tuple):
                counts[value[1]] += 1
    return counts


def plain_seen(heap):
    """What is seen of a heap: met by breadth, field by field."""
    met = [0]
    for record in met:
        for value in heap[record]:
            if isinstance(value, tuple) and value[1] not in met:
                met.append(value[1])
    return tuple(tuple(("to", met.index(value[1])) if isinstance(value, tuple) else value
                       for value in heap[record]) for record in met)


def drawn_value(rng, many):
    return rng.choice([None, rng.randrange(4), -rng.randrange(4), ("to", rng.randrange(many)),
                       ("to", rng.randrange(many))])


def drawn_deed(rng, heap, wide, most=None, records=8):
    """A deed that can be done, behind which at most `most` fields point to a record."""
    for _ in range(50):
        deed = []
        many = len(heap)
        for _ in range(rng.randrange(5)):
            if many < records and rng.random() < 0.35:
                many += 1
                deed.append(("make", tuple(drawn_value(rng, many) for _ in range(wide))))
            else:
                deed.append(("set", rng.randrange(many), rng.randrange(wide), drawn_value(rng, many)))
        if most is None or max(plain_pointed(plain_copy(heap, deed))) <= most:
            return deed
    return []


def drawn_story(seed, versions, wide, most=None, records=8, row=False):
    """A story whose versions come out of any ones, or, for a row, each out of the last one."""
    rng = random.Random(seed)
    heaps = [((None,) * wide,)]
    story = []
    for last in range(versions):
        parent = last if row or rng.random() < 0.3 else rng.randrange(last + 1)
        deed = drawn_deed(rng, heaps[parent], wide, most, records)
        story.append((parent, deed))
        heaps.append(plain_copy(heaps[parent], deed))
    return story
