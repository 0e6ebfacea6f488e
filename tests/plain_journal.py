"""The words of [100] to [102], read plainly: a disk that remembers all writes, and a journal on it."""


class Fallen(Exception):
    pass


class PlainDisk:
    def __init__(self):
        self.landed = {}
        self.waits = []
        self.left = None
        self.acts = []

    def spend(self):
        if self.left == 0:
            raise Fallen()
        if self.left is not None:
            self.left -= 1

    def write(self, cell, content):
        self.spend()
        self.acts.append(("write", cell, content))
        self.waits.append((cell, content))

    def sync(self):
        self.spend()
        self.acts.append(("sync",))
        self.landed.update(self.waits)
        self.waits = []

    def read(self, cell):
        told = dict(self.landed)
        told.update(self.waits)
        return told.get(cell)

    def cut(self, landed):
        self.landed.update([self.waits[at] for at in landed])
        self.waits = []
        self.left = None


class PlainJournal:
    """A journal by the words of the document; leave is None or a rule that it does not mind."""

    def __init__(self, disk, leave=None):
        self.disk = disk
        self.leave = leave
        if disk.waits and leave != "up":
            disk.sync()
        self.turn, self.many, self.life = disk.read(0) or (0, 0, 0)
        self.items = []
        for k in range(self.many):
            row = self.good(k)
            if row is not None and len(row) == 3:
                self.items.append(row[2])
        self.logs = []
        if leave == "gap":
            k = self.look_at_all()
        else:
            k = self.many
            while self.taken(k):
                k += 1
        self.life += 1
        disk.write(self.place(self.turn, k), (self.turn, self.life))
        if leave != "up":
            disk.sync()
        self.next = k + 1

    def place(self, turn, k):
        return 1 + 2 * k if turn % 2 == 0 else 2 + 2 * k

    def good(self, k):
        row = self.disk.read(self.place(self.turn, k))
        if row is None:
            return None
        return row if row[0] == self.turn or self.leave == "turn" else None

    def taken(self, k):
        row = self.good(k)
        if row is None or (row[1] < self.life and self.leave != "life"):
            return False
        self.life = max(self.life, row[1])
        self.logs += list(row[2:])
        return True

    def look_at_all(self):
        """All rows from many on, to the last cell of the turn that holds anything: the row behind them."""
        k = self.many
        while any(self.disk.read(self.place(self.turn, later)) is not None for later in range(k, k + 200)):
            self.taken(k)
            k += 1
        return k

    def log(self, content):
        self.disk.write(self.place(self.turn, self.next), (self.turn, self.life, content))
        self.next += 1
        self.logs.append(content)

    def sync(self):
        self.disk.sync()

    def compact(self, items):
        if self.leave != "head":
            self.disk.sync()
        for k, item in enumerate(items):
            self.disk.write(self.place(self.turn + 1, k), (self.turn + 1, self.life, item))
        if self.leave != "begin":
            self.disk.sync()
        self.disk.write(0, (self.turn + 1, len(items), self.life))
        self.turn += 1
        self.many = self.next = len(items)
        self.items, self.logs = list(items), []

    def line(self):
        return tuple(self.items + self.logs)


def plain_goes_wrong(events, leave):
    """True or False; or the place of the first bad event, in a tuple."""
    disk = PlainDisk()
    journal, sure, fell, wrong = PlainJournal(disk, leave), 0, False, False
    for at, event in enumerate(events):
        word = event[0]
        if fell and word != "cut" or word == "cut" and any(place >= len(disk.waits) for place in event[1]):
            return (at,)
        if word == "log":
            journal.log(event[1])
        elif word == "sync":
            journal.sync()
            sure = len(journal.line())
        elif word == "compact":
            disk.left = event[1]
            try:
                journal.compact(list(journal.line()))
                sure = len(journal.line())
            except Fallen:
                fell = True
            disk.left = None
        else:
            line = journal.line()
            disk.cut(event[1])
            journal, fell = PlainJournal(disk, leave), False
            told = journal.line()
            wrong = wrong or told != line[:len(told)] or len(told) < sure
            sure = len(told)
    return wrong
