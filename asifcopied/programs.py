"""A language of deeds: what a program is, and its faults."""

from asifcopied.checks import check_wide, is_between, is_number
from asifcopied.errors import BadProgram

LONGEST_WORD = 10
MOST_FUNCTIONS = 20
MOST_PARAMS = 4
MOST_LEVELS = 16
MOST_PARTS = 1000
# How many expressions follow the word in expressions that hold nothing else.
PLAIN_PARTS = {"root": 0, "plus": 2, "minus": 2, "times": 2, "below": 2, "same": 2, "not": 1}


def is_word(value):
    """Whether any value is a string of 1 to 10 small letters."""
    if not isinstance(value, str) or not 1 <= len(value) <= LONGEST_WORD:
        return False
    return all(["a" <= sign <= "z" for sign in value])


def is_constant(value):
    """Whether any value is one that a constant can have."""
    return value is None or is_number(value)


def word_of(value):
    """The word with which a tuple begins, None if it begins with none."""
    if not isinstance(value, tuple) or not value or not isinstance(value[0], str):
        return None
    return value[0]


def parts_of(value, wide):
    """The tuple of the parts of which an expression is made, None for any value that is none by its form."""
    word = word_of(value)
    if word in PLAIN_PARTS:
        return value[1:] if len(value) == PLAIN_PARTS[word] + 1 else None
    if word in ("is", "var") and len(value) == 2:
        fits = is_constant(value[1]) if word == "is" else is_word(value[1])
        return () if fits else None
    if word == "get" and len(value) == 3:
        return value[1:2] if is_between(value[2], 0, wide - 1) else None
    if word == "make" and len(value) == 2:
        return value[1] if isinstance(value[1], tuple) and len(value[1]) == wide else None
    if word == "call" and len(value) == 3 and is_word(value[1]):
        return value[2] if isinstance(value[2], tuple) and len(value[2]) <= MOST_PARAMS else None
    return None


def clauses_of(value, wide):
    """The pair of the expressions and of the blocks of a statement, None for any value that is none by its form."""
    word = word_of(value)
    if word == "let" and len(value) == 3:
        return (value[2:], ()) if is_word(value[1]) else None
    if word == "set" and len(value) == 4:
        return ((value[1], value[3]), ()) if is_between(value[2], 0, wide - 1) else None
    if word == "if" and len(value) == 4:
        return (value[1:2], value[2:])
    if word == "while" and len(value) == 3:
        return (value[1:2], value[2:])
    if word in ("give", "do") and len(value) == 2:
        return (value[1:], ())
    return None


def left_by_expression(value, wide, level, left):
    """How many more statements and expressions are let behind an expression, -1 if it cannot stand here."""
    parts = parts_of(value, wide)
    if parts is None or level > MOST_LEVELS or left <= 0:
        return -1
    return left_by_parts(parts, wide, level + 1, left - 1)


def left_by_parts(parts, wide, level, left):
    """How many more are let behind expressions, -1 if they cannot all stand here."""
    for part in parts:
        left = left_by_expression(part, wide, level, left)
    return left


def left_by_statement(value, wide, level, left):
    """How many more are let behind a statement, -1 if it cannot stand here."""
    clauses = clauses_of(value, wide)
    if clauses is None or left <= 0:
        return -1
    left = left_by_parts(clauses[0], wide, level + 1, left - 1)
    for block in clauses[1]:
        left = left_by_block(block, wide, level + 1, left)
    return left


def left_by_block(value, wide, level, left):
    """How many more are let behind a block, -1 if it cannot stand here.

    Each statement has an expression one level deeper, so that the levels of expressions alone have to be looked at.
    """
    if not isinstance(value, tuple):
        return -1
    for statement in value:
        left = left_by_statement(statement, wide, level, left)
    return left


def are_unlike(words):
    """Whether any values of a list or tuple are words, each once."""
    if not all([is_word(word) for word in words]):
        return False
    return len({word: True for word in words}) == len(words)


def is_function(value):
    """Whether any value is a function, but for its name and its block."""
    if not isinstance(value, tuple) or len(value) != 3:
        return False
    params = value[1]
    return isinstance(params, tuple) and len(params) <= MOST_PARAMS and are_unlike(params)


def is_program(value, wide):
    """Whether any value is a program."""
    check_wide(wide)
    if not isinstance(value, tuple) or not 1 <= len(value) <= MOST_FUNCTIONS:
        return False
    if not all([is_function(function) for function in value]):
        return False
    if not are_unlike([name for name, _, _ in value]):
        return False
    left = MOST_PARTS
    for _, _, block in value:
        left = left_by_block(block, wide, 1, left)
    return left >= 0


def check_program(program, wide):
    """Refuse a bad wide, and then what is no program."""
    if not is_program(program, wide):
        raise BadProgram("a program is a tuple of 1 to 20 functions")


class Look:
    """What is found in one function: its faults, and the variables that it reads and sets anywhere."""

    def __init__(self, name, counts, wide):
        self.name = name
        # How many params each function of the program has.
        self.counts = counts
        self.wide = wide
        self.found = {}
        self.reads = {}
        self.lets = {}

    def look_at(self, part, known):
        """Go through an expression: known are the variables that are set ahead of it, None if no way comes here."""
        if part[0] == "var":
            self.reads[part[1]] = True
            if known is not None and part[1] not in known:
                self.found[("unset", self.name, part[1])] = True
        if part[0] == "call" and part[1] not in self.counts:
            self.found[("call", self.name, part[1])] = True
        elif part[0] == "call" and len(part[2]) != self.counts[part[1]]:
            self.found[("many", self.name, part[1])] = True
        for inner in parts_of(part, self.wide):
            self.look_at(inner, known)

    def known_behind(self, statement, known):
        """Go through a statement: the variables that are set behind it on each way, None if all ways end."""
        parts, blocks = clauses_of(statement, self.wide)
        for part in parts:
            self.look_at(part, known)
        ends = [self.known_at_end(block, known) for block in blocks]
        if statement[0] == "let":
            self.lets[statement[1]] = True
            return None if known is None else with_word(known, statement[1])
        if statement[0] == "give":
            return None
        # A while may be left without a turn: what its block sets is not known behind it.
        return shared(ends[0], ends[1]) if statement[0] == "if" else known

    def known_at_end(self, block, known):
        """Go through a block: the variables that are set at its end on each way, None if all ways end."""
        for statement in block:
            known = self.known_behind(statement, known)
        return known

    def told(self, params):
        """The list of all faults, those of variables that nothing sets among them."""
        unset = [word for word in self.reads if word not in self.lets and word not in params]
        return list(self.found) + [("unset", self.name, word) for word in unset]


def with_word(known, word):
    """The variables with one more."""
    more = {one: True for one in known}
    more[word] = True
    return more


def shared(one, other):
    """The variables that are set behind both of two blocks, of which one may end all ways."""
    if one is None or other is None:
        return other if one is None else one
    return {word: True for word in one if word in other}


def faults(program, wide):
    """The ascending list of the faults of a program."""
    check_program(program, wide)
    counts = {name: len(params) for name, params, _ in program}
    told = {}
    for name, params, block in program:
        look = Look(name, counts, wide)
        look.known_at_end(block, {word: True for word in params})
        for fault in look.told(params):
            told[fault] = True
    return sorted(told)


def check_sound(program, wide):
    """Refuse a bad wide, and then what is no program, or one with faults."""
    if faults(program, wide):
        raise BadProgram("the program has faults")
