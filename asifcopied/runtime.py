"""A runtime: versions under names, what none of them needs given back, and all that is done kept in a journal."""

from asifcopied.checks import check_wide, is_list, is_pointer
from asifcopied.coding import compiled
from asifcopied.dropping import Kept, kept_of
from asifcopied.errors import BadGiven, BadName, LastName, Stopped, Unknown
from asifcopied.journal import Journal
from asifcopied.machines import Machine
from asifcopied.piles import place_of

LONGEST_NAME = 20
FIRST_NAME = "main"


def is_name(value):
    """Whether any value is a name: 1 to 20 small letters and digits, the first one a letter."""
    if not isinstance(value, str) or not 1 <= len(value) <= LONGEST_NAME or not "a" <= value[0] <= "z":
        return False
    return all(["a" <= sign <= "z" or "0" <= sign <= "9" for sign in value])


def check_name(name):
    """Refuse what is no name."""
    if not is_name(name):
        raise BadName("a name is 1 to 20 small letters and digits, the first one a letter")


class Runtime:
    """Names on versions of a Kept; each act is logged in a journal on the disk."""

    def __init__(self, wide, disk):
        check_wide(wide)
        self.wide = wide
        self._journal = Journal(disk)
        self._kept = Kept(wide)
        # The known names, and how many of them are on each version that stands.
        self._versions = {FIRST_NAME: 0}
        self._counts = {0: 1}
        self._acts = 0
        for state in self._journal.base():
            self._restore(state)
        for act in self._journal.logs():
            self._do(act)
        self._told = self._acts

    def _restore(self, state):
        """Have what an item of the journal holds."""
        self._acts, names, kept = state
        self._kept = kept_of(kept)
        self._versions = {}
        self._counts = {}
        for name, version in names:
            self._place(name, version)

    def _state(self):
        """All that the runtime has, as a content."""
        names = tuple([(name, self._versions[name]) for name in sorted(self._versions)])
        return self._acts, names, self._kept.state()

    def _version(self, name):
        """The version on which a known name is."""
        check_name(name)
        if name not in self._versions:
            raise Unknown(name)
        return self._versions[name]

    def _place(self, name, version):
        """Put a name on a version; if it was known, it leaves the one on which it was."""
        self._counts[version] = self._counts.get(version, 0) + 1
        if name in self._versions:
            self._leave(name)
        self._versions[name] = version

    def _leave(self, name):
        """Take a name away; a version that no name is on any more is dropped."""
        version = self._versions.pop(name)
        self._counts[version] -= 1
        if self._counts[version] == 0:
            self._counts.pop(version)
            self._kept.drop(version)

    def _do(self, act):
        """Do an act that can be done: the number of the new version, if it makes one."""
        self._acts += 1
        made = None
        if act[0] == "deed":
            _, name, changes, fresh = act
            made = self._kept.deed(self._versions[name], changes)
            self._place(fresh, made)
        elif act[0] == "put":
            self._place(act[1], self._versions[act[2]])
        else:
            self._leave(act[1])
        return made

    def _act(self, act):
        """Log an act and do it: what is not logged is not done."""
        self._journal.log(act)
        return self._do(act)

    def names(self):
        """The dict from the known names to the numbers of their versions."""
        return {name: self._versions[name] for name in sorted(self._versions)}

    def many(self, name):
        """How many records the plain heap of the name's version has."""
        return self._kept.many(self._version(name))

    def reaches(self, name):
        """The ascending tuple of the records to which the root leads."""
        return self._kept.reaches(self._version(name))

    def read(self, name, record, field):
        """What the field of a record to which the root leads holds."""
        return self._kept.read(self._version(name), record, field)

    def look(self, name):
        """What is seen of the name's version."""
        return self._kept.look(self._version(name))

    def standing(self):
        """The ascending tuple of the versions that stand."""
        return self._kept.standing()

    def total(self):
        """How many versions were made."""
        return self._kept.total()

    def kept_rows(self):
        """The rows that are kept."""
        return self._kept.kept_rows()

    def deed(self, name, changes, fresh):
        """The number of a new version, which the changes make out of the name's version; fresh is put on it."""
        self._kept.refuse(self._version(name), changes)
        check_name(fresh)
        return self._act(("deed", name, tuple(changes), fresh))

    def run(self, name, program, function, given, most, fresh):
        """The pair of the value of a call over the name's version, and of the new version that its deed makes."""
        version = self._version(name)
        code = compiled(program, self.wide)
        place_of(code[0], function)
        self._check_given(version, given)
        machine = Machine(code, self._kept, version, function, given, most)
        check_name(fresh)
        while not machine.is_over():
            machine.step()
        outcome = machine.outcome()
        if outcome[0] == "stopped":
            raise Stopped(outcome[1], outcome[2])
        return outcome[1], self._act(("deed", name, tuple(outcome[2]), fresh))

    def _check_given(self, version, given):
        """Refuse pointers to records to which the root does not lead."""
        if not is_list(given):
            raise BadGiven("given is a list")
        reached = self._kept.reaches(version)
        if not all([value[1] in reached for value in given if is_pointer(value)]):
            raise BadGiven("a pointer leads to a record to which the root leads")

    def put(self, name, other):
        """Put a name on the version of another one."""
        check_name(name)
        self._version(other)
        self._act(("put", name, other))

    def take(self, name):
        """Know the name no longer."""
        self._version(name)
        if len(self._versions) == 1:
            raise LastName("it is the only name")
        self._act(("take", name))

    def acts(self):
        """How many acts there were since version 0."""
        return self._acts

    def told(self):
        """How many of them there were at the last sync or compact, or when the runtime came up."""
        return self._told

    def sync(self):
        """Let all that was done land."""
        self._journal.sync()
        self._told = self._acts

    def compact(self):
        """Let the journal begin anew, with all that the runtime has."""
        self._journal.compact([self._state()])
        self._told = self._acts
