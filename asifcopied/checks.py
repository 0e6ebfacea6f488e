"""What values are: numbers, pointers, records and heaps."""

from asifcopied.errors import BadHeap, BadWide

# The least number of 19 digits: numbers have at most 18 of them.
TOO_GREAT = 1000000000000000000
WIDEST = 6


def is_number(value):
    """Whether any value is a number: True and False are none."""
    return isinstance(value, int) and not isinstance(value, bool) and -TOO_GREAT < value < TOO_GREAT


def is_from(value, least):
    """Whether any value is a number, least or above."""
    return is_number(value) and value >= least


def is_between(value, least, most):
    """Whether any value is a number from least to most."""
    return is_number(value) and least <= value <= most


def is_list(value):
    """Whether any value may stand where a list is expected."""
    return isinstance(value, (list, tuple))


def is_pair(value):
    """Whether any value is a tuple of two."""
    return isinstance(value, tuple) and len(value) == 2


def is_pointer(value):
    """Whether any value is a pointer, to whatever record."""
    return is_pair(value) and value[0] == "to" and is_from(value[1], 0)


def is_held(value):
    """Whether any value is one that a field of some heap can hold."""
    return value is None or is_number(value) or is_pointer(value)


def is_value(value, many):
    """Whether any value is one that a field can hold in a heap of so many records."""
    if is_pointer(value):
        return value[1] < many
    return value is None or is_number(value)


def is_row(value, wide, many):
    """Whether any value is a record that can stand in a heap of so many records."""
    if not isinstance(value, tuple) or len(value) != wide:
        return False
    return all([is_value(held, many) for held in value])


def check_wide(wide):
    """Refuse what is no number of fields."""
    if not is_between(wide, 1, WIDEST):
        raise BadWide("wide is a number from 1 to 6")


def is_heap(value, wide):
    """Whether any value is a heap of records with so many fields."""
    check_wide(wide)
    if not isinstance(value, tuple) or not value:
        return False
    return all([is_row(row, wide, len(value)) for row in value])


def check_heap(heap, wide):
    """Refuse a bad wide, and then what is no heap."""
    if not is_heap(heap, wide):
        raise BadHeap("a heap is a tuple of records, whose pointers lead to records of it")
