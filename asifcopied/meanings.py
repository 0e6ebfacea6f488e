"""Running a program in a heap."""

from asifcopied.checks import check_heap
from asifcopied.coding import compiled
from asifcopied.errors import Stopped
from asifcopied.piles import HeapSource, started


def run(program, heap, wide, name, given, most):
    """The value of a call, the deed that it does, and how many steps that takes.

    The steps of a program are just the instructions of its code, so it is the code that is run: calls that are
    open stand in a list there, and do not lie one within another.
    """
    code = compiled(program, wide)
    check_heap(heap, wide)
    going = started(code, wide, HeapSource(heap), len(heap), name, given, most)
    while going.closed is None:
        going.step()
    end, told = going.closed
    if end == "stopped":
        raise Stopped(told, going.steps)
    return told, going.changes, going.steps
