"""Shapes without ways that part or lead round: their prices, told by weights."""

from asifcopied.checks import is_between, is_from
from asifcopied.copying import check_extra
from asifcopied.duels import check_shape, lowest
from asifcopied.errors import BadCounts, BadDeep, BadMost, NotForest, TooMany

MOST_BRANCHES = 17
MOST_DEEP = 7
MOST_TREE = 300


def ends_well(shape, record):
    """Whether the way from the record does not lead round."""
    here = record
    for _ in range(len(shape)):
        if not shape[here]:
            return True
        here = shape[here][0]
    return False


def is_forest(shape):
    """Whether each record leads to at most one, and no way leads round."""
    check_shape(shape)
    if not all([len(row) <= 1 for row in shape]):
        return False
    return all([ends_well(shape, record) for record in range(len(shape))])


def check_forest(shape):
    """Refuse what is no shape, and then what is no forest."""
    if not is_forest(shape):
        raise NotForest("a record leads to several, or a way leads round")


def heights_of(shape):
    """The list of how many records the way from each record on has."""
    heights = []
    for record in range(len(shape)):
        height = 1
        here = record
        while shape[here]:
            here = shape[here][0]
            height += 1
        heights.append(height)
    return heights


def by_height(shape):
    """The list of the records, those with the shortest ways first."""
    heights = heights_of(shape)
    return sorted(range(len(shape)), key=lambda record: heights[record])


def weighed(shape, extra):
    """The pair of the common den of all weights and the tuple of their numbers."""
    den = 1
    for _ in range(max(heights_of(shape))):
        den = den * (extra + 1)
    # What each record has to carry: 1, and the weights of those that lead to it.
    loads = [den] * len(shape)
    for record in reversed(by_height(shape)):
        loads[record] = loads[record] // (extra + 1)
        for other in shape[record]:
            loads[other] += loads[record]
    return den, tuple(loads)


def forest_weights(shape, extra):
    """The weights of all records, as their common den and the tuple of their numbers."""
    check_forest(shape)
    check_extra(extra)
    return weighed(shape, extra)


def forest_price(shape, extra):
    """The greatest weight, in lowest terms."""
    check_forest(shape)
    check_extra(extra)
    den, numbers = weighed(shape, extra)
    return lowest(max(numbers), den)


def forest_copies(shape, extra, counts):
    """The tuple of how often each record is copied if it is moved so often."""
    check_forest(shape)
    check_extra(extra)
    if not isinstance(counts, tuple) or len(counts) != len(shape) or not all([is_from(count, 0) for count in counts]):
        raise BadCounts("counts are a tuple of a number from 0 on for each record")
    copies = [0] * len(shape)
    for record in by_height(shape):
        led = sum([copies[other] for other in shape[record]])
        copies[record] = (counts[record] + led) // (extra + 1)
    return tuple(copies)


def tree_shape(most, deep):
    """The shape of a record and levels above it, in which so many records lead to each one."""
    if not is_between(most, 1, MOST_BRANCHES):
        raise BadMost("most is a number from 1 to 17")
    if not is_between(deep, 0, MOST_DEEP):
        raise BadDeep("deep is a number from 0 to 7")
    many = 1
    level = 1
    for _ in range(deep):
        level = level * most
        many += level
    if many > MOST_TREE:
        raise TooMany("the tree has more than 300 records")
    return ((),) + tuple([((record - 1) // most,) for record in range(1, many)])
