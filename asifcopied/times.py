"""Questions over versions: when a way leads where, since when, and who gave a field its value."""

from asifcopied.ascents import check_place, grown
from asifcopied.changes import check_story, heaps_of
from asifcopied.checks import check_heap, is_between, is_held
from asifcopied.copying import check_way
from asifcopied.errors import BadField, BadValue, NoWay
from asifcopied.heaps import is_lead
from asifcopied.lines import check_version, lined

# What a way leads to that does not go on: a tuple of one, to which no value is equal.
NOTHING = ("nothing",)


def end_of(heap, way):
    """The value to which the way leads."""
    here = ("to", 0)
    for at, field in enumerate(way):
        if not is_lead(here):
            raise NoWay(at)
        here = heap[here[1]][field]
    return here


def end_or_nothing(heap, way):
    """The value to which the way leads, or NOTHING if it does not go on."""
    try:
        return end_of(heap, way)
    except NoWay:
        return NOTHING


def led_to(heap, wide, way):
    """The value to which the way leads in the heap."""
    check_heap(heap, wide)
    check_way(way, wide)
    return end_of(heap, way)


def elders_of(story):
    """The list of the parents of all versions of a story that is one."""
    return [None] + [parent for parent, _ in story]


def times_of(story, wide, way, value):
    """The list of all longest stretches of the line in which the way leads to the value."""
    check_story(story, wide)
    check_way(way, wide)
    if not is_held(value):
        raise BadValue("a value is None, a number, or a pointer")
    heaps = heaps_of(story, wide)
    told = []
    goes_on = False
    for version in lined(elders_of(story)):
        is_there = end_or_nothing(heaps[version], way) == value
        if is_there and goes_on:
            told[-1] = (told[-1][0], version)
        elif is_there:
            told.append((version, version))
        goes_on = is_there
    return told


def since(story, wide, version, way):
    """The shallowest version from which on, down to the version, the way leads to one thing."""
    check_story(story, wide)
    elders = elders_of(story)
    check_version(elders, version)
    check_way(way, wide)
    heaps = heaps_of(story, wide)
    end = end_or_nothing(heaps[version], way)
    while version > 0 and end_or_nothing(heaps[elders[version]], way) == end:
        version = elders[version]
    return version


def giver(story, wide, version, record, field):
    """The version that gave the field its value."""
    check_story(story, wide)
    growth = grown(story)
    check_place(growth, version, record)
    if not is_between(field, 0, wide - 1):
        raise BadField("a field is a number below wide")
    heaps = heaps_of(story, wide)
    made = growth.maker(version, record)
    value = heaps[version][record][field]
    while version != made and heaps[growth.elders[version]][record][field] == value:
        version = growth.elders[version]
    return version
