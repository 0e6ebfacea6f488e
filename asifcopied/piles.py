"""How a run of a code goes on, instruction by instruction, whatever it reads the fields from."""

from asifcopied.checks import TOO_GREAT, is_from, is_list, is_value
from asifcopied.errors import BadGiven, BadMost, BadName
from asifcopied.heaps import is_lead

MOST_CALLS = 40


def is_true(value):
    """Whether a value holds: it is neither None nor 0."""
    return value is not None and value != 0


def are_numbers(one, other):
    """Whether both of two values of a run are numbers."""
    return not [1 for value in (one, other) if value is None or is_lead(value)]


class Call:
    """A call that is open: the place of its next instruction, its variables, and its pile."""

    def __init__(self, begin, given, places):
        self.at = begin
        self.variables = list(given) + [None] * (places - len(given))
        self.pile = []

    def take(self, many):
        """Take so many values off the pile: the list of them, the one taken last ahead."""
        first = len(self.pile) - many
        taken = self.pile[first:]
        del self.pile[first:]
        return taken


def put_number(call, number):
    """Put a number on the pile, if it is one."""
    if abs(number) >= TOO_GREAT:
        return "great"
    call.pile.append(number)
    return None


# Each of the following does one instruction, and returns the word that stops the run, or None.


def do_push(going, call, worth):
    """Put a constant."""
    call.pile.append(worth)
    return None


def do_root(going, call, worth):
    """Put a pointer to the root."""
    call.pile.append(("to", 0))
    return None


def do_load(going, call, worth):
    """Put what a variable holds."""
    call.pile.append(call.variables[worth])
    return None


def do_store(going, call, worth):
    """Give a variable its value."""
    call.variables[worth] = call.pile.pop()
    return None


def do_drop(going, call, worth):
    """Take a value off."""
    call.pile.pop()
    return None


def do_get(going, call, worth):
    """Put what a field holds."""
    place = call.pile.pop()
    if not is_lead(place):
        return "kind"
    call.pile.append(going.read(place[1], worth))
    return None


def do_put(going, call, worth):
    """Give a field its value."""
    place, value = call.take(2)
    if not is_lead(place):
        return "kind"
    going.write(place[1], worth, value)
    return None


def do_make(going, call, worth):
    """Make a record, and put a pointer to it."""
    call.pile.append(going.make(call.take(going.wide)))
    return None


def do_call(going, call, worth):
    """Open a call."""
    if len(going.calls) == MOST_CALLS:
        return "deep"
    going.enter(worth, call.take(going.functions[worth][2]))
    return None


def do_give(going, call, worth):
    """End a call."""
    going.leave(call.pile.pop())
    return None


def do_jump(going, call, worth):
    """Go on elsewhere."""
    call.at = worth
    return None


def do_skip(going, call, worth):
    """Go on elsewhere, unless the value holds."""
    if not is_true(call.pile.pop()):
        call.at = worth
    return None


def do_plus(going, call, worth):
    """Put a sum."""
    one, other = call.take(2)
    return put_number(call, one + other) if are_numbers(one, other) else "kind"


def do_minus(going, call, worth):
    """Put a difference."""
    one, other = call.take(2)
    return put_number(call, one - other) if are_numbers(one, other) else "kind"


def do_times(going, call, worth):
    """Put a product."""
    one, other = call.take(2)
    return put_number(call, one * other) if are_numbers(one, other) else "kind"


def do_below(going, call, worth):
    """Put whether a number is less than another one."""
    one, other = call.take(2)
    return put_number(call, 1 if one < other else 0) if are_numbers(one, other) else "kind"


def do_same(going, call, worth):
    """Put whether two values are the same."""
    one, other = call.take(2)
    return put_number(call, 1 if one == other else 0)


def do_not(going, call, worth):
    """Put whether a value does not hold."""
    return put_number(call, 0 if is_true(call.pile.pop()) else 1)


ACTIONS = {"push": do_push, "root": do_root, "load": do_load, "store": do_store, "drop": do_drop, "get": do_get,
           "put": do_put, "make": do_make, "call": do_call, "give": do_give, "jump": do_jump, "skip": do_skip,
           "plus": do_plus, "minus": do_minus, "times": do_times, "below": do_below, "same": do_same, "not": do_not}


class HeapSource:
    """Reads the fields of a heap."""

    def __init__(self, heap):
        self.heap = heap

    def held(self, record, field):
        """What the field holds."""
        return self.heap[record][field]


class KeeperSource:
    """Reads the fields of a version of a keeper, and remembers which."""

    def __init__(self, keeper, version):
        self.keeper = keeper
        self.version = version
        self.pairs = {}

    def held(self, record, field):
        """What the field holds at the version."""
        self.pairs[(record, field)] = True
        return self.keeper.read(self.version, record, field)


class Going:
    """A run of a function of a right code."""

    def __init__(self, code, wide, source, records, most):
        self.functions, self.row = code
        self.wide = wide
        self.source = source
        # How many records there are, those that the run made among them.
        self.records = records
        self.most = most
        self.steps = 0
        # What the fields hold that the run has set or made.
        self.own = {}
        self.changes = []
        self.calls = []
        # Behind the end ("gave", value) or ("stopped", word).
        self.closed = None

    def enter(self, place, given):
        """Open a call of a function."""
        _, begin, _, places = self.functions[place]
        self.calls.append(Call(begin, given, places))

    def leave(self, value):
        """End the call that was opened last."""
        self.calls.pop()
        if self.calls:
            self.calls[-1].pile.append(value)
        else:
            self.closed = ("gave", value)

    def read(self, record, field):
        """What a field holds: what the run wrote itself, or what there was."""
        if (record, field) in self.own:
            return self.own[(record, field)]
        return self.source.held(record, field)

    def write(self, record, field, value):
        """Set a field."""
        self.own[(record, field)] = value
        self.changes.append(("set", record, field, value))

    def make(self, held):
        """Make a record: a pointer to it."""
        record = self.records
        for field, value in enumerate(held):
            self.own[(record, field)] = value
        self.changes.append(("make", tuple(held)))
        self.records += 1
        return "to", record

    def step(self):
        """Do one step, if the run is not over."""
        if self.closed is not None:
            return
        if self.steps == self.most:
            self.closed = ("stopped", "steps")
            return
        call = self.calls[-1]
        instruction = self.row[call.at]
        call.at += 1
        action = ACTIONS[instruction[0]]
        word = action(self, call, instruction[1] if len(instruction) > 1 else None)
        if word is not None:
            self.closed = ("stopped", word)
        else:
            self.steps += 1


def place_of(functions, name):
    """The place of the function with this name."""
    for at, function in enumerate(functions):
        if function[0] == name:
            return at
    raise BadName("a name is that of one of the functions")


def started(code, wide, source, records, name, given, most):
    """A run of the function with this name, if it can be begun."""
    place = place_of(code[0], name)
    if not is_list(given) or len(given) != code[0][place][2]:
        raise BadGiven("a value is given for each param")
    if not all([is_value(value, records) for value in given]):
        raise BadGiven("what is given is None, a number, or a pointer to a record that is there")
    if not is_from(most, 0):
        raise BadMost("most is a number from 0 on")
    going = Going(code, wide, source, records, most)
    going.enter(place, given)
    return going
