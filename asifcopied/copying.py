"""One line of versions: cells with a few slots, which are copied where these do not suffice."""

from asifcopied.changes import check_deed, is_story
from asifcopied.checks import check_wide, is_between, is_number
from asifcopied.errors import BadCourse, BadExtra, BadField, BadPlan, BadVersion, BadWay
from asifcopied.errors import NoRecord, NotCopied, NotNewest, NoWay
from asifcopied.heaps import is_lead
from asifcopied.tracks import Shelf, Track, value_in

MOST_EXTRA = 60


def is_course(value, wide):
    """Whether any value is a story in which each deed is done at the version made last."""
    if not is_story(value, wide):
        return False
    return all([parent == at for at, (parent, _) in enumerate(value)])


def check_course(story, wide):
    """Refuse a bad wide, and then what is no course."""
    if not is_course(story, wide):
        raise BadCourse("a course is a story in which the pair at place k has the parent k")


def check_extra(extra):
    """Refuse what is no number of slots."""
    if not is_between(extra, 0, MOST_EXTRA):
        raise BadExtra("extra is a number from 0 to 60")


def check_later(story, version):
    """Refuse what is no version from 1 on."""
    if not is_between(version, 1, len(story)):
        raise BadVersion("a version is a number from 1 to that of the last version")


def is_ascending(value, many):
    """Whether any value is an ascending tuple of unlike numbers below many."""
    if not isinstance(value, tuple) or not all([is_between(number, 0, many - 1) for number in value]):
        return False
    return all([value[at] < value[at + 1] for at in range(len(value) - 1)])


def counts_of(story):
    """The list of how many records each version has."""
    counts = [1]
    for _, deed in story:
        counts.append(counts[-1] + len([1 for change in deed if change[0] == "make"]))
    return counts


def is_planned(value, story):
    """Whether any value is a plan of a story that is known to be a course."""
    if not isinstance(value, tuple) or len(value) != len(story):
        return False
    counts = counts_of(story)
    return all([is_ascending(copied, counts[at]) for at, copied in enumerate(value)])


def check_plan(story, plan):
    """Refuse what is no plan of the course."""
    if not is_planned(plan, story):
        raise BadPlan("a plan tells for each version from 1 on the elder records that are copied")


def used_by(story, wide, plan):
    """The tuple of the used slots of all records at each version."""
    track = Track(wide)
    rows = [tuple(track.taken)]
    for (_, deed), copied in zip(story, plan):
        track.settle(track.advance(deed), copied)
        rows.append(tuple(track.taken))
    return tuple(rows)


def is_enough(story, wide, extra, plan):
    """Whether so many slots are enough for a plan."""
    return all([slots <= extra for used in used_by(story, wide, plan) for slots in used])


def touched(story, wide, version):
    """The ascending tuple of the fields of elder records that hold another value at the version."""
    check_course(story, wide)
    check_later(story, version)
    track = Track(wide)
    for _, deed in story[:version - 1]:
        track.settle(track.advance(deed), [])
    return tuple(track.advance(story[version - 1][1]))


def is_plan(value, story, wide):
    """Whether any value is a plan of the course."""
    check_course(story, wide)
    return is_planned(value, story)


def used_slots(story, wide, plan):
    """The tuple that has, for each version, the tuple of how many slots each of its records has used."""
    check_course(story, wide)
    check_plan(story, plan)
    return used_by(story, wide, plan)


def is_good(story, wide, extra, plan):
    """Whether no record ever has more than extra used slots."""
    check_course(story, wide)
    check_extra(extra)
    check_plan(story, plan)
    return is_enough(story, wide, extra, plan)


def begun_at(copied, elders, many):
    """The list of the records that get a cell: those that are copied, then those that are made."""
    return list(copied) + list(range(elders, many))


def copy_cells(story, wide, extra, plan):
    """The tuple of all cells of the course, copied as the plan tells."""
    check_course(story, wide)
    check_extra(extra)
    check_plan(story, plan)
    if not is_enough(story, wide, extra, plan):
        raise BadPlan("some record has more than extra used slots")
    track = Track(wide)
    shelf = Shelf()
    shelf.shelve(0, [0], [], track.rows)
    for at, (_, deed) in enumerate(story):
        elders = len(track.rows)
        fields = track.settle(track.advance(deed), plan[at])
        shelf.shelve(at + 1, begun_at(plan[at], elders, len(track.rows)), fields, track.rows)
    return shelf.told()


def check_way(way, wide):
    """Refuse what is no tuple of fields."""
    if not isinstance(way, tuple) or not all([is_between(field, 0, wide - 1) for field in way]):
        raise BadWay("a way is a tuple of fields")


def first_cell(cells, version):
    """The number of the last cell of the root that was begun at the version or ahead of it."""
    return max([number for number, cell in enumerate(cells) if cell[0] == 0 and cell[1] <= version])


def read_cells(cells, version, way):
    """What the way leads to at the version, read from the cells alone."""
    check_way(way, len(cells[0][2]))
    here = ("to", first_cell(cells, version))
    for at, field in enumerate(way):
        if not is_lead(here):
            raise NoWay(at)
        _, _, held, later = cells[here[1]]
        here = value_in(held, later, version, field)
    return ("to", cells[here[1]][0]) if is_lead(here) else here


def least_plan(story, wide, extra):
    """The plan that copies, at each version, no record that need not be copied."""
    check_course(story, wide)
    check_extra(extra)
    track = Track(wide)
    plan = []
    for _, deed in story:
        fields = track.advance(deed)
        copied = sorted(track.due(fields, extra))
        track.settle(fields, copied)
        plan.append(tuple(copied))
    return tuple(plan)


def reason_for(story, wide, extra, version, record):
    """Records each of which has to be copied as those ahead of it are, record the last of them."""
    check_course(story, wide)
    check_extra(extra)
    check_later(story, version)
    track = Track(wide)
    added = []
    for _, deed in story[:version]:
        fields = track.advance(deed)
        added = track.due(fields, extra)
        track.settle(fields, added)
    if not is_number(record) or record not in added:
        raise NotCopied("the least plan does not copy the record at this version")
    return tuple(added[:added.index(record) + 1])


class Copier:
    """A keeper of one line of versions, in cells that are copied as the least plan tells."""

    def __init__(self, wide, extra):
        check_wide(wide)
        check_extra(extra)
        self.wide = wide
        self.extra = extra
        self._track = Track(wide)
        self._shelf = Shelf()
        self._shelf.shelve(0, [0], [], self._track.rows)
        self._counts = [1]
        self._plan = []

    def _check(self, version):
        if not is_between(version, 0, len(self._counts) - 1):
            raise BadVersion("a version is the number of one that is there")

    def deed(self, version, changes):
        """The number of a new version, which the changes make out of the newest one."""
        self._check(version)
        newest = len(self._counts) - 1
        if version != newest:
            raise NotNewest(newest)
        elders = self._counts[version]
        count = check_deed(changes, self.wide, elders)
        fields = self._track.advance(changes)
        copied = sorted(self._track.due(fields, self.extra))
        moved = self._track.settle(fields, copied)
        self._shelf.shelve(newest + 1, begun_at(copied, elders, count), moved, self._track.rows)
        self._counts.append(count)
        self._plan.append(tuple(copied))
        return newest + 1

    def many(self, version):
        """How many records the version's heap has."""
        self._check(version)
        return self._counts[version]

    def heap(self, version):
        """The version's heap."""
        self._check(version)
        fields = range(self.wide)
        return tuple([tuple([self._shelf.value(version, record, field) for field in fields])
                      for record in range(self._counts[version])])

    def read(self, version, record, field):
        """What the field holds at the version."""
        self._check(version)
        if not is_between(record, 0, self._counts[version] - 1):
            raise NoRecord(record)
        if not is_between(field, 0, self.wide - 1):
            raise BadField("a field is a number below wide")
        return self._shelf.value(version, record, field)

    def plan(self):
        """The least plan of the course that was done."""
        return tuple(self._plan)

    def cells(self):
        """The tuple of all cells."""
        return self._shelf.told()

    def used(self):
        """The tuple of how many slots each record has used at the newest version."""
        return tuple(self._track.taken)
