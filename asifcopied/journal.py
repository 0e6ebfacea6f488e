"""A journal on a disk whose writes wait: cut at any moment, it comes up with a beginning of what it had."""

from asifcopied.checks import is_from, is_list, is_number
from asifcopied.copying import is_ascending
from asifcopied.errors import BadCell, BadContent, BadDisk, BadEvents, BadItems, BadLanded, BadMany, BadRule, Fell

RULES = ("begin", "gap", "head", "life", "turn", "up")
# For each rule the shortest events that go wrong without it.
WRONG_RUNS = {
    "begin": (("log", "a"), ("compact", None), ("cut", (1,))),
    "gap": (("log", "a"), ("log", "b"), ("cut", (1,))),
    "head": (("log", "a"), ("compact", None), ("compact", 1), ("cut", (1,))),
    "life": (("log", "a"), ("log", "b"), ("cut", (1,)), ("cut", ())),
    "turn": (("log", "a"), ("compact", None), ("compact", None), ("cut", (0,))),
    "up": (("log", "a"), ("cut", (1,)), ("cut", (0,)))}


def is_content(value):
    """Whether any value is a content."""
    if isinstance(value, tuple):
        return all([is_content(part) for part in value])
    return value is None or is_number(value) or isinstance(value, str)


def check_content(content):
    """Refuse what is no content."""
    if not is_content(content):
        raise BadContent("a content is None, a number, a string, or a tuple of contents")


def is_rule(value):
    """Whether any value is the word of a rule."""
    return isinstance(value, str) and value in RULES


def check_leave(leave):
    """Refuse what is neither None nor the word of a rule."""
    if leave is not None and not is_rule(leave):
        raise BadRule("leave is None or the word of a rule")


class Disk:
    """Cells with contents: what is written waits until it lands, or is lost."""

    def __init__(self):
        self.allowed = None
        self._landed = {}
        # The pairs of a cell and a content that wait, as they were written.
        self._waits = []

    def _check_cell(self, cell):
        if not is_from(cell, 0):
            raise BadCell("a cell is a number from 0 on")

    def _spend(self):
        """Let one write or sync fewer, if so many were let."""
        if self.allowed is None:
            return
        if self.allowed == 0:
            raise Fell("no more writes and syncs are let")
        self.allowed -= 1

    def write(self, cell, content):
        """Write a cell: the write waits."""
        self._check_cell(cell)
        check_content(content)
        self._spend()
        self._waits.append((cell, content))

    def read(self, cell):
        """What was written last to the cell, waiting or not."""
        self._check_cell(cell)
        for waiting, content in reversed(self._waits):
            if waiting == cell:
                return content
        return self._landed.get(cell)

    def sync(self):
        """Let all waiting writes land."""
        self._spend()
        self._land(self._waits)

    def _land(self, writes):
        """Let these writes land; no others wait any more."""
        for cell, content in writes:
            self._landed[cell] = content
        self._waits = []

    def waiting(self):
        """The tuple of the cells of the waiting writes, as they were written."""
        return tuple([cell for cell, _ in self._waits])

    def cells(self):
        """The dict from the cells to which writes landed to what landed last."""
        return {cell: self._landed[cell] for cell in sorted(self._landed)}

    def allow(self, many):
        """Let so many more writes and syncs, for None any many."""
        if many is not None and not is_from(many, 0):
            raise BadMany("many is None or a number from 0 on")
        self.allowed = many

    def cut(self, landed):
        """Let the writes at these places land, and the others be lost."""
        if not is_ascending(landed, len(self._waits)):
            raise BadLanded("landed is an ascending tuple of places of waiting writes")
        self._land([self._waits[at] for at in landed])
        self.allowed = None


class Journal:
    """A line of contents on a disk: first the items, then the logs."""

    def __init__(self, disk, leave=None):
        if not isinstance(disk, Disk):
            raise BadDisk("a disk is a Disk")
        check_leave(leave)
        self._disk = disk
        self._leave = leave
        if disk.waiting() and leave != "up":
            disk.sync()
        head = disk.read(0)
        self._turn, self._many, self._life = (0, 0, 0) if head is None else head
        self._base = self._items_of_turn()
        self._logs = []
        # The row that is written next.
        self._next = self._many
        self._come_up()

    def _cell(self, turn, row):
        """The cell in which a row of a turn is: even and odd turns have cells of their own."""
        return 1 + 2 * row + turn % 2

    def _good_row(self, row):
        """What is in the cell of the row, if it is good; otherwise None."""
        held = self._disk.read(self._cell(self._turn, row))
        if held is None or held[0] != self._turn and self._leave != "turn":
            return None
        return held

    def _items_of_turn(self):
        """The list of the contents of the items' rows; one that has none is passed over."""
        rows = [self._good_row(row) for row in range(self._many)]
        return [row[2] for row in rows if row is not None and len(row) == 3]

    def _last_row(self):
        """The last row whose cell holds anything, -1 if there is none."""
        cells = list(self._disk.cells()) + list(self._disk.waiting())
        return max([(cell - 1) // 2 for cell in cells if cell % 2 != self._turn % 2], default=-1)

    def _take(self, row):
        """Whether the row is taken: its life counts then, and its content, if it has one, is the next log."""
        held = self._good_row(row)
        if held is None or held[1] < self._life and self._leave != "life":
            return False
        self._life = max(self._life, held[1])
        if len(held) == 3:
            self._logs.append(held[2])
        return True

    def _come_up(self):
        """Take the rows behind the items, and write the up row behind them."""
        last = self._last_row() if self._leave == "gap" else -1
        while self._take(self._next) or self._next <= last:
            self._next += 1
        self._life += 1
        self._write((self._turn, self._life))
        if self._leave != "up":
            self._disk.sync()

    def _write(self, held):
        """Write the next row."""
        self._disk.write(self._cell(self._turn, self._next), held)
        self._next += 1

    def base(self):
        """The tuple of the items."""
        return tuple(self._base)

    def logs(self):
        """The tuple of the logs."""
        return tuple(self._logs)

    def line(self):
        """The tuple of the items and the logs."""
        return tuple(self._base + self._logs)

    def head(self):
        """The triple of the turn, how many items there are, and the life, as they are now."""
        return self._turn, self._many, self._life

    def log(self, content):
        """Put a content at the end of the logs; the disk refuses what is none."""
        self._write((self._turn, self._life, content))
        self._logs.append(content)

    def sync(self):
        """Let all that was written land."""
        self._disk.sync()

    def compact(self, items):
        """Begin the next turn, with these items and no logs."""
        if not is_list(items) or not all([is_content(item) for item in items]):
            raise BadItems("items are a list of contents")
        base = list(items)
        turn = self._turn + 1
        if self._leave != "head":
            self._disk.sync()
        for row, item in enumerate(base):
            self._disk.write(self._cell(turn, row), (turn, self._life, item))
        if self._leave != "begin":
            self._disk.sync()
        self._disk.write(0, (turn, len(base), self._life))
        self._turn = turn
        self._many = len(base)
        self._base = base
        self._logs = []
        self._next = len(base)


class Trial:
    """A journal on a new disk, on which events are done one by one."""

    def __init__(self, leave):
        self.leave = leave
        self.disk = Disk()
        self.journal = Journal(self.disk, leave)
        # How many contents the line had when they were sure last.
        self.sure = 0
        self.fell = False
        self.wrong = False

    def is_event(self, value):
        """Whether any value is an event that can be done now."""
        if not isinstance(value, tuple) or not value or not isinstance(value[0], str):
            return False
        word = value[0]
        if self.fell and word != "cut":
            return False
        if word == "sync":
            return len(value) == 1
        if len(value) != 2:
            return False
        if word == "log":
            return is_content(value[1])
        if word == "compact":
            return value[1] is None or is_from(value[1], 0)
        return word == "cut" and is_ascending(value[1], len(self.disk.waiting()))

    def do(self, event):
        """Do an event that can be done."""
        word = event[0]
        if word == "log":
            self.journal.log(event[1])
        elif word == "sync":
            self.journal.sync()
            self.sure = len(self.journal.line())
        elif word == "compact":
            self.compact(event[1])
        else:
            self.cut(event[1])

    def compact(self, many):
        """Compact the journal to its own line, so many writes and syncs being let for it."""
        line = list(self.journal.line())
        self.disk.allow(many)
        try:
            self.journal.compact(line)
            self.sure = len(line)
        except Fell:
            self.fell = True
        self.disk.allow(None)

    def cut(self, landed):
        """Cut the disk, let a new journal come up, and see whether it has what it must have."""
        line = self.journal.line()
        self.disk.cut(landed)
        self.journal = Journal(self.disk, self.leave)
        told = self.journal.line()
        if told != line[:len(told)] or len(told) < self.sure:
            self.wrong = True
        self.sure = len(told)
        self.fell = False


def goes_wrong(events, leave):
    """Whether some cut among the events goes wrong if one rule is left out."""
    if not is_list(events):
        raise BadEvents(None)
    trial = Trial(leave)
    for at, event in enumerate(events):
        if not trial.is_event(event):
            raise BadEvents(at)
        trial.do(event)
    return trial.wrong


def wrong_run(rule):
    """Events, as few as can be, that go wrong if the rule is left out."""
    if not is_rule(rule):
        raise BadRule("a rule is one of six words")
    return WRONG_RUNS[rule]
