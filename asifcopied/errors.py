"""The errors of the package: all of them stand directly below CopyError."""


class CopyError(ValueError):
    """Any error that the package tells of."""


class BadBits(CopyError):
    """bits is no number from 1 to 59."""


class BadCell(CopyError):
    """A cell is none that can be meant here."""


class BadCode(CopyError):
    """A code is not a right code."""


class BadContent(CopyError):
    """A content is none."""


class BadCopied(CopyError):
    """The copied records are no ascending tuple that can be copied in this turn."""


class BadCounts(CopyError):
    """The counts are no tuple of a number from 0 on for each record."""


class BadCourse(CopyError):
    """A story is no course."""


class BadDeed(CopyError):
    """A deed cannot be done: at is the place of its first bad change, None if it is no list."""

    def __init__(self, at):
        self.at = at


class BadDeep(CopyError):
    """deep is no number that is let."""


class BadDepth(CopyError):
    """A depth is none that is on the way up."""


class BadDisk(CopyError):
    """A disk is no Disk."""


class BadEntries(CopyError):
    """Entries are none, or do not stand as in the line."""


class BadEvents(CopyError):
    """Events cannot be done: at is the place of the first bad one, None if they are no list."""

    def __init__(self, at):
        self.at = at


class BadExtra(CopyError):
    """extra is no number that is let."""


class BadField(CopyError):
    """A field is no number of a field."""


class BadGiven(CopyError):
    """The given values do not fit the params."""


class BadHeap(CopyError):
    """A heap is none."""


class BadItem(CopyError):
    """An item is not one of the items here."""


class BadItems(CopyError):
    """items is no number, or no list, that is let here."""


class BadLabels(CopyError):
    """Labels are no Labels."""


class BadLanded(CopyError):
    """The landed places are none of the waiting writes."""


class BadLater(CopyError):
    """A later state is no state of one label more."""


class BadLeast(CopyError):
    """least is no number from 0 on."""


class BadLeft(CopyError):
    """left is no number from 0 to 59."""


class BadLevel(CopyError):
    """A level is no number from 0 to 59."""


class BadLine(CopyError):
    """A line is no tuple of the numbers from 0 on, each once, 0 first."""


class BadMany(CopyError):
    """many is no number that is let here."""


class BadMarks(CopyError):
    """Marks are none for these versions."""


class BadMost(CopyError):
    """most is no number that is let here."""


class BadMoves(CopyError):
    """Moves are no list of numbers of items of the shape."""


class BadName(CopyError):
    """A name is none that can be meant here."""


class BadParents(CopyError):
    """Parents are no tuple of the parents of versions."""


class BadPlace(CopyError):
    """A place is none that is there."""


class BadPlan(CopyError):
    """A plan is none that is let here."""


class BadPrice(CopyError):
    """A price is none."""


class BadProgram(CopyError):
    """A program is none, or has faults."""


class BadPuts(CopyError):
    """Puts cannot be done: at is the place of the first bad one, None if they are no list."""

    def __init__(self, at):
        self.at = at


class BadRecord(CopyError):
    """A record is none that is there."""


class BadRoom(CopyError):
    """room is no number from 1 on."""


class BadRounds(CopyError):
    """rounds is no number that is let."""


class BadRows(CopyError):
    """Rows are none."""


class BadRule(CopyError):
    """A rule is not the name of one."""


class BadShape(CopyError):
    """A shape is none."""


class BadStanding(CopyError):
    """The standing versions are no ascending tuple of versions."""


class BadState(CopyError):
    """A state is no ascending tuple of labels."""


class BadStory(CopyError):
    """A story is none."""


class BadTable(CopyError):
    """A table is no tuple of cells."""


class BadText(CopyError):
    """A text is none of its kind: line is the number of its first bad line, 0 for no string."""

    def __init__(self, line):
        self.line = line


class BadUsed(CopyError):
    """A used tuple is none."""


class BadValue(CopyError):
    """A value is none."""


class BadValues(CopyError):
    """Values are no dict from just the versions that are meant."""


class BadVersion(CopyError):
    """A version is none that can be meant here."""


class BadWay(CopyError):
    """A way is no row of fields."""


class BadWide(CopyError):
    """wide is no number from 1 to 6."""


class Fell(CopyError):
    """No further write or sync of the disk is let."""


class Full(CopyError):
    """There is no label for one item more: many is how many items there are."""

    def __init__(self, many):
        self.many = many


class LastName(CopyError):
    """The only name cannot be taken away."""


class NoEntry(CopyError):
    """There is no entry at the version or ahead of it."""


class NoRecord(CopyError):
    """record is none of the version's records."""

    def __init__(self, record):
        self.record = record


class NoWay(CopyError):
    """A way does not go on: at is the place of the first field that cannot be followed."""

    def __init__(self, at):
        self.at = at


class NotCopied(CopyError):
    """The record is not copied at the version."""


class NotForest(CopyError):
    """The shape is no forest."""


class NotNewest(CopyError):
    """The version is not newest, the one made last."""

    def __init__(self, newest):
        self.newest = newest


class NotOver(CopyError):
    """The run is not over."""


class Stopped(CopyError):
    """A run stopped: word tells why, steps how many steps were done ahead."""

    def __init__(self, word, steps):
        self.word = word
        self.steps = steps


class TooMany(CopyError):
    """There would be more than can be looked at."""


class TooPointed(CopyError):
    """More fields than are let point to record."""

    def __init__(self, record):
        self.record = record


class Unknown(CopyError):
    """name is not known."""

    def __init__(self, name):
        self.name = name
