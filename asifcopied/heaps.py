"""What is seen of a heap: where pointers lead."""

from asifcopied.checks import check_heap


def is_lead(value):
    """Whether a value that is already known to be one is a pointer."""
    return isinstance(value, tuple)


def count_pointed(heap):
    """The list with, for each record, from how many fields it is pointed at."""
    counts = [0] * len(heap)
    for row in heap:
        for value in row:
            if is_lead(value):
                counts[value[1]] += 1
    return counts


def meet_all(heap):
    """The dict from the records that the root leads to, as they are met, to the numbers they get."""
    numbers = {0: 0}
    row = [0]
    at = 0
    while at < len(row):
        for value in heap[row[at]]:
            if is_lead(value) and value[1] not in numbers:
                numbers[value[1]] = len(row)
                row.append(value[1])
        at += 1
    return numbers


def led_anew(row, numbers):
    """A record whose pointers lead to the new numbers of records."""
    return tuple([("to", numbers[value[1]]) if is_lead(value) else value for value in row])


def seen_from_root(heap):
    """What is seen of a heap that is known to be one."""
    numbers = meet_all(heap)
    return tuple([led_anew(heap[record], numbers) for record in numbers])


def pointed(heap, wide):
    """The tuple with, for each record, from how many fields of all records it is pointed at."""
    check_heap(heap, wide)
    return tuple(count_pointed(heap))


def reached(heap, wide):
    """The ascending tuple of the records to which pointers lead from the root."""
    check_heap(heap, wide)
    return tuple(sorted(meet_all(heap)))


def seen(heap, wide):
    """The heap of the records that the root leads to, with numbers in the sequence of their meeting."""
    check_heap(heap, wide)
    return seen_from_root(heap)


def look_alike(one, other, wide):
    """Whether the same is seen of two heaps."""
    check_heap(one, wide)
    check_heap(other, wide)
    return seen_from_root(one) == seen_from_root(other)
