"""The words of [80] to [83], read plainly: names by the ways up, readers and rows looked for anew."""

from plain import plain_heaps, plain_line, way_up


def parents_in(story):
    return (None,) + tuple(parent for parent, _ in story)


def plain_names(story, wide):
    """For each version the list of the names of its records."""
    heaps, parents = plain_heaps(story, wide), parents_in(story)
    told = []
    for version in range(len(heaps)):
        names = []
        for made in reversed(way_up(parents, version)):
            elders = len(heaps[parents[made]]) if made else 0
            names += [(made, which) for which in range(len(heaps[made]) - elders)]
        told.append(names)
    return told


def plain_reached(heap):
    told = [0]
    for record in told:
        told += [value[1] for value in dict.fromkeys(heap[record])
                 if isinstance(value, tuple) and value[1] not in told]
    return sorted(told)


def plain_readers(story, wide, standing):
    """For each needed name the pairs (reader, number of the record), by the line."""
    heaps, names = plain_heaps(story, wide), plain_names(story, wide)
    told = {}
    for version in plain_line(parents_in(story)):
        if version in standing:
            for record in plain_reached(heaps[version]):
                told.setdefault(names[version][record], []).append((version, record))
    return told


def plain_held(story, wide, standing):
    """For each needed name and field the pairs (reader, what is held there), by the line."""
    heaps = plain_heaps(story, wide)
    return {(name, field): [(version, heaps[version][record][field]) for version, record in told]
            for name, told in plain_readers(story, wide, standing).items() for field in range(wide)}


def plain_rows(story, wide, standing):
    """The least rows."""
    rows = []
    for (name, field), held in sorted(plain_held(story, wide, standing).items()):
        entries = [pair for at, pair in enumerate(held) if at == 0 or held[at - 1][1] != pair[1]]
        rows.append((name, field, tuple(entries)))
    return tuple(rows)


def plain_find(line, entries, version):
    """What the nearest entry tells, "nothing" if there is none."""
    told = "nothing"
    for here in line[:line.index(version) + 1]:
        for at, value in entries:
            if at == here:
                told = value
    return told


def plain_serves(story, wide, standing, rows):
    line = plain_line(parents_in(story))
    told = {(name, field): entries for name, field, entries in rows}
    return all(plain_find(line, told.get(key, ()), version) == value
               for key, held in plain_held(story, wide, standing).items() for version, value in held)


def plain_reasons(story, wide, standing, value):
    """Whether tuples of two names, a field and versions or None are reasons in their sequence."""
    line, held = plain_line(parents_in(story)), plain_held(story, wide, standing)
    for name, field, ahead, version in value:
        told = dict(held.get((name, field), ()))
        if version not in told:
            return False
        if ahead is not None and (ahead not in told or line.index(ahead) >= line.index(version)
                                  or told[ahead] == told[version]):
            return False
    if list(value) != sorted(value, key=lambda one: (one[0], one[1], line.index(one[3]))):
        return False
    for one, other in zip(value, value[1:]):
        if one[:2] == other[:2]:
            if other[2] is None or line.index(other[2]) < line.index(one[3]):
                return False
    return True


def plain_ways(heap, longest):
    """All pairs of a way of at most so many fields from the root and the record to which it leads, by length, then by fields."""
    told, row = [((), 0)], [((), 0)]
    for _ in range(longest):
        row = [(way + (field,), value[1]) for way, record in row for field, value in enumerate(heap[record])
               if isinstance(value, tuple)]
        told += row
    return told


def size(content):
    """The size of a content."""
    if isinstance(content, str):
        return 1 + len(content)
    return 1 + sum(map(size, content)) if isinstance(content, tuple) else 1
