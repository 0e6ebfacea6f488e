"""A desk at which structures are looked at and changed in all their versions, line by line."""

from asifcopied.changes import heap_by
from asifcopied.checks import is_between
from asifcopied.differences import least_changes, unlike
from asifcopied.errors import NoWay
from asifcopied.heaps import is_lead
from asifcopied.journal import Disk
from asifcopied.runtime import FIRST_NAME, Runtime
from asifcopied.texts import number_in, story_text, value_in, value_text
from asifcopied.times import since, times_of

WHAT = "what"
NONE = "none"


def way_in(word, wide):
    """The way that a word tells, None if it tells none."""
    if word == ".":
        return ()
    fields = [number_in(part) for part in word.split(".")]
    return tuple(fields) if all([is_between(field, 0, wide - 1) for field in fields]) else None


def ways_in(words, many, wide):
    """The list of the ways that so many words tell, None if they do not."""
    ways = [way_in(word, wide) for word in words]
    return None if len(ways) != many or None in ways else ways


def worth_in(word, wide):
    """What a word tells of a value: ("is", value), or ("way", way) to a record; None if it tells none."""
    if word.startswith("@"):
        way = way_in(word[1:], wide)
        return None if way is None else ("way", way)
    is_told, value = value_in(word)
    return ("is", value) if is_told else None


def number_of(words):
    """The number from 0 on that is all that the words tell, None if they tell something else."""
    number = number_in(words[0]) if len(words) == 1 else None
    return None if number is None or number < 0 else number


def astray(desk, way):
    """The answer to a way that does not go on, None if it does."""
    try:
        desk.end_of(way)
    except NoWay as stop:
        return "nothing at " + str(stop.at)
    return None


def first_fault(desk, worths):
    """The answer to the first way among these that does not lead to a record, None if each one does."""
    for kind, told in worths:
        if kind == "way":
            fault = astray(desk, told)
            if fault is not None:
                return fault
            if not is_lead(desk.end_of(told)):
                return "no record"
    return None


def value_of(desk, worth):
    """The value that was told, or a pointer to the record to which the way leads."""
    kind, told = worth
    return told if kind == "is" else desk.end_of(told)


def do_change(desk, words, is_made):
    """Give a field a value, or a pointer to a new record with these values."""
    way = way_in(words[0], desk.wide)
    worths = [worth_in(word, desk.wide) for word in words[1:]]
    if not way or None in worths:
        return None
    place = ("way", way[:-1])
    fault = first_fault(desk, [place] + worths)
    if fault is not None:
        return fault
    record = value_of(desk, place)[1]
    values = [value_of(desk, worth) for worth in worths]
    if is_made:
        return desk.deed([("make", tuple(values)), ("set", record, way[-1], ("to", desk.many()))])
    return desk.deed([("set", record, way[-1], values[0])])


# Each of the following answers a line that begins with a word; None if the words behind it do not fit.


def answer_set(desk, words):
    """Set a field."""
    return do_change(desk, words, False) if len(words) == 2 else None


def answer_make(desk, words):
    """Make a record."""
    return do_change(desk, words, True) if len(words) == desk.wide + 1 else None


def answer_read(desk, words):
    """Tell what a way leads to."""
    ways = ways_in(words, 1, desk.wide)
    if ways is None:
        return None
    fault = astray(desk, ways[0])
    if fault is not None:
        return fault
    end = desk.end_of(ways[0])
    return "record" if is_lead(end) else value_text(end)


def answer_same(desk, words):
    """Tell whether two ways lead to one record."""
    ways = ways_in(words, 2, desk.wide)
    if ways is None:
        return None
    for way in ways:
        fault = astray(desk, way)
        if fault is not None:
            return fault
    one, other = [desk.end_of(way) for way in ways]
    return "yes" if is_lead(one) and one == other else "no"


def answer_at(desk, words):
    """Tell the version."""
    return None if words else desk.go(desk.version)


def answer_back(desk, words):
    """Go to the parent."""
    return None if words else desk.go(desk.parents()[desk.version])


def answer_on(desk, words):
    """Go to the youngest child."""
    children = [child for child, parent in enumerate(desk.parents()) if parent == desk.version]
    return None if words else desk.go(children[-1] if children else None)


def answer_to(desk, words):
    """Go to a version."""
    number = number_of(words)
    return None if number is None else desk.go(number)


def answer_since(desk, words):
    """Tell since when a way leads to what it leads to."""
    ways = ways_in(words, 1, desk.wide)
    return None if ways is None else version_text(since(desk.pairs, desk.wide, desk.version, ways[0]))


def answer_when(desk, words):
    """Tell where, along the line, a way leads to a value."""
    ways = ways_in(words[:1], 1, desk.wide)
    if ways is None or len(words) != 2 or words[1].startswith("@"):
        return None
    is_told, value = value_in(words[1])
    if not is_told:
        return None
    stretches = times_of(desk.pairs, desk.wide, ways[0], value)
    return " ".join([str(first) + "-" + str(last) for first, last in stretches]) if stretches else "never"


def answer_unlike(desk, words):
    """Tell what this version and another one have unlike."""
    number = number_of(words)
    if number is None:
        return None
    if not desk.has(number):
        return NONE
    common, fields = unlike(desk.pairs, desk.wide, desk.version, number)
    return " ".join([str(common)] + [str(record) + "." + str(field) for record, field, _, _ in fields])


def answer_least(desk, words):
    """Tell how many changes lead from this heap to that of another version."""
    number = number_of(words)
    if number is None:
        return None
    if not desk.has(number):
        return NONE
    here = heap_by(desk.pairs, desk.wide, desk.version)
    many = least_changes(here, heap_by(desk.pairs, desk.wide, number), desk.wide)
    return NONE if many is None else str(many)


def answer_text(desk, words):
    """Tell all that was done."""
    return None if words else story_text(desk.pairs, desk.wide)


ANSWERS = {"set": answer_set, "make": answer_make, "read": answer_read, "same": answer_same, "at": answer_at,
           "back": answer_back, "on": answer_on, "to": answer_to, "since": answer_since, "when": answer_when,
           "unlike": answer_unlike, "least": answer_least, "text": answer_text}


def version_text(version):
    """The answer that tells a version."""
    return "version " + str(version)


def name_of(version):
    """The name under which a version stands for ever."""
    return "v" + str(version)


class Desk:
    """Structures in all their versions, over a runtime in which each version has a name of its own."""

    def __init__(self, wide):
        self._runtime = Runtime(wide, Disk())
        self._runtime.put(name_of(0), FIRST_NAME)
        self._runtime.take(FIRST_NAME)
        self.wide = wide
        self.pairs = []
        self.version = 0

    def say(self, line):
        """The answer to a line."""
        words = line.split(" ") if isinstance(line, str) else [""]
        if words[0] not in ANSWERS:
            return WHAT
        answer = ANSWERS[words[0]]
        told = answer(self, words[1:])
        return WHAT if told is None else told

    def has(self, version):
        """Whether a number from 0 on is that of a version."""
        return version <= len(self.pairs)

    def parents(self):
        """The list of the parents of all versions."""
        return [None] + [parent for parent, _ in self.pairs]

    def many(self):
        """How many records there are at the desk's version."""
        return self._runtime.many(name_of(self.version))

    def end_of(self, way):
        """What a way leads to at the desk's version."""
        here = ("to", 0)
        for at, field in enumerate(way):
            if not is_lead(here):
                raise NoWay(at)
            here = self._runtime.read(name_of(self.version), here[1], field)
        return here

    def go(self, version):
        """Be at a version from now on, if there is such a one: the answer."""
        if version is None or not self.has(version):
            return NONE
        self.version = version
        return version_text(version)

    def deed(self, changes):
        """Do a deed, and be at the new version: the answer."""
        self._runtime.deed(name_of(self.version), changes, name_of(len(self.pairs) + 1))
        self.pairs.append((self.version, changes))
        return self.go(len(self.pairs))
