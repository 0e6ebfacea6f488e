"""Machines that run code over a version of a keeper, step by step."""

from asifcopied.changes import check_deed, done, first_heap
from asifcopied.checks import check_wide, is_between, is_from
from asifcopied.coding import check_code
from asifcopied.errors import BadMost, BadPlace, BadVersion, NotOver
from asifcopied.piles import KeeperSource, started


class Plain:
    """A keeper that has a copy of the heap for each version."""

    def __init__(self, wide):
        check_wide(wide)
        self.wide = wide
        self._heaps = [first_heap(wide)]

    def _heap(self, version):
        if not is_between(version, 0, len(self._heaps) - 1):
            raise BadVersion("a version is the number of one that is there")
        return self._heaps[version]

    def many(self, version):
        """How many records the version's heap has."""
        return len(self._heap(version))

    def read(self, version, record, field):
        """What the field holds at the version."""
        heap = self._heap(version)
        if not is_between(record, 0, len(heap) - 1) or not is_between(field, 0, self.wide - 1):
            raise BadPlace("a place is a record that is there, and a field below wide")
        return heap[record][field]

    def deed(self, version, changes):
        """The number of a new version, which the changes make out of the version."""
        heap = self._heap(version)
        check_deed(changes, self.wide, len(heap))
        self._heaps.append(done(heap, changes))
        return len(self._heaps) - 1

    def heap(self, version):
        """The version's heap."""
        return self._heap(version)


class Machine:
    """A run of a function of a code over a version of a keeper, step by step."""

    def __init__(self, code, keeper, version, name, given, most):
        check_code(code, keeper.wide)
        records = keeper.many(version)
        self._source = KeeperSource(keeper, version)
        self._going = started(code, keeper.wide, self._source, records, name, given, most)

    def step(self):
        """Do one step; nothing if it is over."""
        self._going.step()

    def turn(self, many):
        """Do so many steps."""
        if not is_from(many, 0):
            raise BadMost("many is a number from 0 on")
        left = many
        while left > 0 and self._going.closed is None:
            self._going.step()
            left -= 1

    def is_over(self):
        """Whether the first call has given, or the run has stopped."""
        return self._going.closed is not None

    def outcome(self):
        """What came of the run, None while it is not over."""
        if self._going.closed is None:
            return None
        word, told = self._going.closed
        if word == "stopped":
            return word, told, self._going.steps
        return word, told, list(self._going.changes), self._going.steps

    def standing(self):
        """The place of the next instruction, how many values are on the pile, how many calls are open."""
        if self._going.closed is not None:
            return None
        call = self._going.calls[-1]
        return call.at, len(call.pile), len(self._going.calls)

    def end(self):
        """The number of a new version, made by what the run did, None if it has stopped."""
        if self._going.closed is None:
            raise NotOver("the run is not over")
        if self._going.closed[0] == "stopped":
            return None
        return self._source.keeper.deed(self._source.version, list(self._going.changes))

    def leaned(self):
        """The ascending tuple of the fields that the run read from the keeper so far."""
        return tuple(sorted(self._source.pairs))
