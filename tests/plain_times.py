"""The words of [92] and [93], read plainly in the heaps of all versions."""

from plain import plain_heaps, plain_line, way_up
from plain_courses import plain_walk
from plain_dropping import parents_in


def plain_led(heap, way):
    """What a way leads to, None for nothing at all; else ("value", what it is)."""
    kind, told = plain_walk(heap, way)
    return (kind, told) if kind == "value" else None


def plain_times(story, wide, way, value):
    heaps, line, told = plain_heaps(story, wide), plain_line(parents_in(story)), []
    there = [plain_led(heaps[version], way) == ("value", value) for version in line]
    for at, version in enumerate(line):
        if there[at]:
            first = at
            while first > 0 and there[first - 1]:
                first -= 1
            last = at
            while last + 1 < len(line) and there[last + 1]:
                last += 1
            if (line[first], line[last]) not in told:
                told.append((line[first], line[last]))
    return told


def plain_since(story, wide, version, way):
    heaps = plain_heaps(story, wide)
    told = version
    for here in way_up(parents_in(story), version):
        if plain_led(heaps[here], way) != plain_led(heaps[version], way):
            break
        told = here
    return told


def plain_giver(story, wide, version, record, field):
    heaps, parents = plain_heaps(story, wide), parents_in(story)
    for here in way_up(parents, version):
        if here == 0 or record >= len(heaps[parents[here]]):
            return here
        if heaps[here][record][field] != heaps[parents[here]][record][field]:
            return here


def plain_unlike(story, wide, one, other):
    heaps, parents = plain_heaps(story, wide), parents_in(story)
    top = max(set(way_up(parents, one)) & set(way_up(parents, other)))
    common = len(heaps[top])

    def meant(value, version):
        """A value; a pointer to a record that is not in common is told with its version."""
        if isinstance(value, tuple) and value[1] >= common:
            return value, version
        return value, None

    told = []
    for record in range(common):
        for field in range(wide):
            here, there = heaps[one][record][field], heaps[other][record][field]
            if meant(here, one) != meant(there, other):
                told.append((record, field, here, there))
    return common, told
