"""The words of [50] to [55], read plainly: heaps are copies, and all subsets are looked at."""

import itertools

from plain import plain_heaps


def subsets(items):
    return [told for size in range(len(items) + 1) for told in itertools.combinations(items, size)]


def plain_touched(heaps, version):
    elder, heap = heaps[version - 1], heaps[version]
    return [(record, field) for record in range(len(elder)) for field in range(len(elder[record]))
            if heap[record][field] != elder[record][field]]


def plain_moved(heaps, version, copied):
    """The moved fields of elder records."""
    elder, heap = heaps[version - 1], heaps[version]
    leading = [(record, field) for record in range(len(elder)) for field, value in enumerate(heap[record])
               if isinstance(value, tuple) and value[1] in copied]
    return sorted(set(plain_touched(heaps, version)) | set(leading))


def plain_behind(heaps, version, used, copied):
    """The used slots of all records at a version, from those at the one before."""
    moved = plain_moved(heaps, version, copied)
    told = [0 if record in copied else slots + sum(1 for pair in moved if pair[0] == record)
            for record, slots in enumerate(used)]
    return tuple(told) + (0,) * (len(heaps[version]) - len(used))


def plain_used(story, wide, plan):
    heaps = plain_heaps(story, wide)
    rows = [(0,)]
    for version in range(1, len(heaps)):
        rows.append(plain_behind(heaps, version, rows[-1], plan[version - 1]))
    return tuple(rows)


def good_sets(heaps, version, used, extra):
    """All sets of elder records that may be copied at a version."""
    elders = list(range(len(heaps[version - 1])))
    return [copied for copied in subsets(elders) if max(plain_behind(heaps, version, used, copied)) <= extra]


def plain_least(story, wide, extra):
    """The words of [52]: records are added by turns, as long as there is one."""
    heaps = plain_heaps(story, wide)
    used, plan = (0,), []
    for version in range(1, len(heaps)):
        copied = []
        while True:
            moved = plain_moved(heaps, version, copied)
            due = [record for record in range(len(used)) if record not in copied
                   and used[record] + sum(1 for pair in moved if pair[0] == record) > extra]
            if not due:
                break
            copied.append(due[-1])
        plan.append(tuple(sorted(copied)))
        used = plain_behind(heaps, version, used, copied)
    return tuple(plan)


def drawn_plan(rng, story, wide, extra):
    """A good plan that copies now and then what need not be copied."""
    heaps = plain_heaps(story, wide)
    used, plan = (0,), []
    for version in range(1, len(heaps)):
        elders = range(len(heaps[version - 1]))
        copied = {record for record in elders if rng.random() < 0.2}
        while max(plain_behind(heaps, version, used, copied)) > extra:
            told = plain_behind(heaps, version, used, copied)
            copied |= {record for record in elders if told[record] > extra}
        plan.append(tuple(sorted(copied)))
        used = plain_behind(heaps, version, used, copied)
    return tuple(plan)


def plain_cells(story, wide, plan):
    """The cells as [51] tells of them, looked for anew at each version."""
    heaps = plain_heaps(story, wide)
    begun = [(0, 0)]
    for version in range(1, len(heaps)):
        elders = len(heaps[version - 1])
        begun += [(version, record) for record in plan[version - 1]]
        begun += [(version, record) for record in range(elders, len(heaps[version]))]
    begun.sort()

    def told(value, version):
        if not isinstance(value, tuple):
            return value
        return ("to", max(at for at, (first, record) in enumerate(begun) if record == value[1] and first <= version))

    cells = []
    for first, record in begun:
        ends = [version for version, other in begun if other == record and version > first] + [len(heaps)]
        entries = [(version, field, told(heaps[version][record][field], version))
                   for version in range(first + 1, min(ends))
                   for at, field in plain_moved(heaps, version, plan[version - 1]) if at == record]
        values = tuple(told(value, first) for value in heaps[first][record])
        cells.append((record, first, values, tuple(entries)))
    return tuple(cells)


def plain_walk(heap, way):
    """What a way leads to in a heap, or the place of the field that cannot be followed."""
    here = ("to", 0)
    for at, field in enumerate(way):
        if not isinstance(here, tuple):
            return "nothing", at
        here = heap[here[1]][field]
    return "value", here


def plain_turn(shape, used, record, copied):
    """The used tuple behind a turn of a duel."""
    return tuple(0 if item in copied else used[item] + (item == record) + sum(1 for to in shape[item] if to in copied)
                 for item in range(len(shape)))


def plain_choices(shape, extra, used, record):
    """All pairs of copied records that are let and of the used tuple behind."""
    told = [(copied, plain_turn(shape, used, record, copied)) for copied in subsets(range(len(shape)))]
    return [(copied, later) for copied, later in told if max(later) <= extra]


def all_used(shape, extra):
    return list(itertools.product(range(extra + 1), repeat=len(shape)))


def plain_holds(shape, extra, price, paper):
    """Whether a dict of pots is a holding paper."""
    num, den = price
    return all(any(den * len(copied) + paper[later] <= num + paper[used]
                   for copied, later in plain_choices(shape, extra, used, record))
               for used in all_used(shape, extra) for record in range(len(shape)))


def plain_presses(shape, extra, price, paper):
    """Whether a dict of pairs is a pressing paper."""
    num, den = price
    return all(paper[used][0] + den * len(copied) >= num + paper[later][0]
               for used in all_used(shape, extra)
               for copied, later in plain_choices(shape, extra, used, paper[used][1]))


def plain_pots(shape, extra, price, kind):
    """The least pots, each raised by 1 as long as it has to be; None if some pot gets past all bounds."""
    num, den = price
    states = all_used(shape, extra)
    choices = {(used, record): plain_choices(shape, extra, used, record)
               for used in states for record in range(len(shape))}
    bound = (den * len(shape) + num + 1) * len(states)
    pots = {used: 0 for used in states}
    changed = True
    while changed:
        changed = False
        for used in states:
            rows = [choices[used, record] for record in range(len(shape))]
            if kind == "holding":
                due = max(min(den * len(copied) - num + pots[later] for copied, later in row) for row in rows)
            else:
                due = min(max(num - den * len(copied) + pots[later] for copied, later in row) for row in rows)
            if due > pots[used]:
                pots[used] = due
                changed = True
                if due > bound:
                    return None
    return pots


def drawn_shape(rng, records, pointers=2):
    return tuple(tuple(rng.randrange(records) for _ in range(rng.randrange(pointers + 1))) for _ in range(records))
