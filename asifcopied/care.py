"""The rules of care that cells follow: without any one of them some story reads a wrong past."""

from asifcopied.cells import Cells
from asifcopied.changes import heaps_of
from asifcopied.errors import BadRule
from asifcopied.heaps import is_lead, seen_from_root
from asifcopied.lines import climbs_to

RULES = ("child", "behind", "nearest", "met", "values", "over", "turned", "straddling", "backs")

# For each rule the fields, the room and the pointers of cells, and a story that they misread without it.
MISREAD = {
    "child": (1, 1, 1, ((0, (("set", 0, 0, 1),)), (0, ()))),
    "behind": (1, 1, 1, ((0, ()), (0, (("set", 0, 0, 1),)))),
    "nearest": (1, 1, 1, ((0, (("set", 0, 0, 1),)), (0, ()))),
    "met": (1, 1, 1, ((0, (("make", (5,)), ("set", 0, 0, ("to", 1)))), (1, (("set", 1, 0, 6),)),
                      (2, (("set", 1, 0, 7),)), (3, (("set", 0, 0, None),)), (4, (("set", 0, 0, ("to", 1)),)))),
    "values": (1, 2, 1, ((0, (("set", 0, 0, 1),)), (1, (("set", 0, 0, 2),)), (2, (("set", 0, 0, 3),)))),
    "over": (1, 2, 1, ((0, (("set", 0, 0, 1),)), (1, (("set", 0, 0, 2),)), (2, (("set", 0, 0, 3),)))),
    "turned": (1, 1, 1, ((0, (("make", (5,)),)), (1, (("set", 1, 0, 6),)), (2, (("set", 0, 0, ("to", 1)),)),
                         (3, (("set", 1, 0, 7),)))),
    "straddling": (1, 1, 1, ((0, (("make", (5,)), ("set", 0, 0, ("to", 1)))), (1, (("set", 1, 0, 6),)),
                             (2, (("set", 1, 0, 7),)))),
    "backs": (2, 1, 1, ((0, (("make", (5, None)), ("set", 0, 1, ("to", 1)))), (1, (("set", 0, 0, 1),)),
                        (2, (("set", 1, 0, 6),)), (3, (("set", 1, 0, 7),))))}


def is_rule(value):
    """Whether any value is the name of a rule."""
    return isinstance(value, str) and value in RULES


class CarelessCells(Cells):
    """Cells that do not mind one of the rules; None if they mind all of them."""

    def __init__(self, wide, room, most, without):
        super().__init__(wide, room, most)
        if without is not None and not is_rule(without):
            raise BadRule("without is None or the name of a rule")
        self._without = without

    def _stand(self, parent):
        # Without "child" the newest version is the last one in the line.
        super()._stand(len(self._order) - 1 if self._without == "child" else parent)

    def _has(self, number, version):
        if self._without != "child":
            return super()._has(number, version)
        # The versions stand by their numbers here: those at which a record is there need not stand together.
        name, beginning = self._cells[number].name, self._cells[number].beginning
        if beginning > version or self._cell_at(name, version) != number:
            return False
        return all([climbs_to(self._growth.elders, later, name[0]) for later in range(beginning, version + 1)])

    def _leading(self, value, version):
        lead = super()._leading(value, version)
        if is_lead(lead) and self._without == "met":
            return "in", self._rows[self._cells[lead[1]].name][0]
        return lead

    def _write(self, number, field, version, value, behind):
        super()._write(number, field, version, value, None if self._without == "behind" else behind)

    def _things(self, number):
        things = super()._things(number)
        if self._without is None:
            return things
        return [version for version in things if self._has(number, version)]

    def _untie(self, number, field, version, value):
        # Without "backs" there are leads of which the cells that they lead to do not know.
        if is_lead(value) and (number, version, field) in self._cells[value[1]].leads:
            super()._untie(number, field, version, value)

    def _held_anew(self, number, version):
        if self._without != "values":
            return super()._held_anew(number, version)
        cell = self._cells[number]
        return [later[-1][1] if later else value for later, value in zip(cell.later, cell.held)]

    def _hand_over(self, fresh, behind):
        if self._without != "over":
            super()._hand_over(fresh, behind)
        if self._without == "backs":
            self._forget(fresh)

    def _forget(self, number):
        """Let the cells to which the leads of a cell lead know of none of these."""
        cell = self._cells[number]
        for field, later in enumerate(cell.later):
            for version, value in [(cell.beginning, cell.held[field])] + later:
                self._untie(number, field, version, value)

    def _turn(self, elder, fresh, key):
        if self._without != "turned":
            super()._turn(elder, fresh, key)

    def _straddle(self, fresh, key):
        if self._without != "straddling":
            super()._straddle(fresh, key)

    def _shown(self, number, field, version):
        cell = self._cells[number]
        if self._without == "nearest":
            told = [pair for pair in [(cell.beginning, cell.held[field])] + cell.later[field] if pair[0] <= version]
            return max(told, key=lambda pair: pair[0])[1] if told else None
        if not self._stands_by(cell.beginning, version):
            return None
        return super()._shown(number, field, version)


def shown_of(wide, room, most, without, story):
    """The pair of the plain heaps of all versions, and of what is shown of them when one rule is not minded."""
    cells = CarelessCells(wide, room, most, without)
    heaps = heaps_of(story, wide)
    for at, (parent, _) in enumerate(story):
        cells.grow(parent, heaps[parent], heaps[at + 1])
    return heaps, tuple([cells.shown(version) for version in range(len(heaps))])


def care_rules():
    """The tuple of the names of the rules."""
    return RULES


def seen_without(wide, room, most, without, story):
    """The tuple of what is shown of each version when one rule is not minded."""
    return shown_of(wide, room, most, without, story)[1]


def first_misread(wide, room, most, without, story):
    """The least version of which another heap is shown than is seen of its own, None if there is none."""
    heaps, shown = shown_of(wide, room, most, without, story)
    for version, heap in enumerate(heaps):
        if seen_from_root(heap) != shown[version]:
            return version
    return None


def story_without(rule):
    """A quadruple of wide, room, most and a story of which some version is misread when the rule is not minded."""
    if not is_rule(rule):
        raise BadRule("a rule is the name of one")
    wide, room, most, story = MISREAD[rule]
    return wide, room, most, [(parent, list(deed)) for parent, deed in story]
