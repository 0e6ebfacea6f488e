"""Code for a machine that keeps values in a pile: right codes, their heights, and the code of a program."""

from asifcopied.checks import check_wide, is_between, is_pair
from asifcopied.errors import BadCode
from asifcopied.programs import MOST_FUNCTIONS, MOST_PARAMS, check_sound, is_constant, is_word, word_of

MOST_PLACES = 1000
MOST_INSTRUCTIONS = 8000
# How many values an instruction takes and puts; those of make and call hang on more than the word.
TAKES = {"push": 0, "root": 0, "load": 0, "store": 1, "drop": 1, "skip": 1, "give": 1, "put": 2, "get": 1, "not": 1,
         "jump": 0, "plus": 2, "minus": 2, "times": 2, "below": 2, "same": 2}
PUTS = {"push": 1, "root": 1, "load": 1, "store": 0, "drop": 0, "skip": 0, "give": 0, "put": 0, "get": 1, "not": 1,
        "jump": 0, "plus": 1, "minus": 1, "times": 1, "below": 1, "same": 1, "make": 1, "call": 1}
BARE = {"root": True, "make": True, "give": True, "drop": True, "plus": True, "minus": True, "times": True,
        "below": True, "same": True, "not": True}


def is_begun(value, first, many):
    """Whether any value is a function of a code that begins at first or behind it, in a row of so many instructions."""
    if not isinstance(value, tuple) or len(value) != 4 or not is_word(value[0]):
        return False
    _, begin, params, places = value
    return (is_between(begin, first, many - 1) and is_between(params, 0, MOST_PARAMS)
            and is_between(places, params, MOST_PLACES))


def are_functions(value, many):
    """Whether any value is the functions of a code, for a row of so many instructions."""
    if not isinstance(value, tuple) or not 1 <= len(value) <= MOST_FUNCTIONS:
        return False
    first = 0
    words = {}
    for function in value:
        if not is_begun(function, first, many) or function[0] in words:
            return False
        words[function[0]] = True
        first = function[1] + 1
    return value[0][1] == 0


def ends_of_stretches(functions, many):
    """The list of the places behind the stretches of the functions."""
    return [function[1] for function in functions[1:]] + [many]


def is_instruction(value, wide, places, stretch, functions):
    """Whether any value is an instruction that can stand in the stretch of a function with so many places."""
    word = word_of(value)
    if word in BARE:
        return len(value) == 1
    if word is None or len(value) != 2:
        return False
    worth = value[1]
    if word == "push":
        return is_constant(worth)
    if word in ("load", "store"):
        return is_between(worth, 0, places - 1)
    if word in ("get", "put"):
        return is_between(worth, 0, wide - 1)
    if word == "call":
        return is_between(worth, 0, functions - 1)
    return word in ("jump", "skip") and is_between(worth, stretch[0], stretch[1] - 1)


def is_formed(value, wide):
    """Whether any value is a code by its form."""
    if not is_pair(value) or not isinstance(value[1], tuple) or len(value[1]) > MOST_INSTRUCTIONS:
        return False
    functions, row = value
    if not are_functions(functions, len(row)):
        return False
    for function, end in zip(functions, ends_of_stretches(functions, len(row))):
        stretch = (function[1], end)
        for instruction in row[function[1]:end]:
            if not is_instruction(instruction, wide, function[3], stretch, len(functions)):
                return False
    return True


def taken_by(instruction, functions, wide):
    """How many values an instruction takes off the pile."""
    if instruction[0] == "make":
        return wide
    if instruction[0] == "call":
        return functions[instruction[1]][2]
    return TAKES[instruction[0]]


def nexts_of(at, instruction):
    """The list of the places that can come behind an instruction."""
    word = instruction[0]
    if word == "give":
        return []
    if word == "jump":
        return [instruction[1]]
    return [at + 1, instruction[1]] if word == "skip" else [at + 1]


def height_all(code, wide, begin, end, told):
    """Tell heights of all that can be come to in a stretch: whether there are no two unlike ones, and none too low."""
    functions, row = code
    told[begin] = 0
    waiting = [begin]
    while waiting:
        at = waiting.pop()
        instruction = row[at]
        taken = taken_by(instruction, functions, wide)
        if told[at] < taken:
            return False
        later = told[at] - taken + PUTS[instruction[0]]
        for place in nexts_of(at, instruction):
            if place == end or told.get(place, later) != later:
                return False
            if place not in told:
                told[place] = later
                waiting.append(place)
    return True


def heights_in(code, wide):
    """The dict of the heights of a code that is one by its form, None if it is not right."""
    functions, row = code
    told = {}
    for function, end in zip(functions, ends_of_stretches(functions, len(row))):
        if not height_all(code, wide, function[1], end, told):
            return None
    return told


def is_code(value, wide):
    """Whether any value is a right code."""
    check_wide(wide)
    return is_formed(value, wide) and heights_in(value, wide) is not None


def check_code(code, wide):
    """Refuse a bad wide, and then what is no right code."""
    if not is_code(code, wide):
        raise BadCode("a code is a right pair of functions and a row of instructions")


def heights(code, wide):
    """The tuple of the heights of all instructions, None for those that are never come to."""
    check_code(code, wide)
    told = heights_in(code, wide)
    return tuple([told.get(at) for at in range(len(code[1]))])


def variables_in(block, words):
    """Put the variables of a block behind the words that are there, as they are first let in the text."""
    for statement in block:
        if statement[0] == "let":
            words.setdefault(statement[1], len(words))
        if statement[0] in ("if", "while"):
            for inner in statement[2:]:
                variables_in(inner, words)


class Writer:
    """Writes the instructions of a program, function by function."""

    def __init__(self, program):
        self.row = []
        self.numbers = {function[0]: at for at, function in enumerate(program)}
        # The places of the variables of the function that is written.
        self.words = {}

    def write_function(self, function):
        """Write a function: how the code tells of it."""
        name, params, block = function
        begin = len(self.row)
        self.words = {word: at for at, word in enumerate(params)}
        variables_in(block, self.words)
        self.write_block(block)
        self.row.extend([("push", None), ("give",)])
        return name, begin, len(params), len(self.words)

    def write_block(self, block):
        """Write the statements of a block."""
        for statement in block:
            self.write_statement(statement)

    def write_statement(self, statement):
        """Write a statement."""
        word = statement[0]
        if word == "let":
            self.write(statement[2])
            self.row.append(("store", self.words[statement[1]]))
        elif word == "set":
            self.write(statement[1])
            self.write(statement[3])
            self.row.append(("put", statement[2]))
        elif word == "if":
            self.write_if(statement)
        elif word == "while":
            self.write_while(statement)
        else:
            self.write(statement[1])
            self.row.append(("drop",) if word == "do" else ("give",))

    def leave_room(self):
        """The place of an instruction that is written later."""
        self.row.append(None)
        return len(self.row) - 1

    def write_if(self, statement):
        """Write an if: the first block jumps over the second one."""
        self.write(statement[1])
        skip = self.leave_room()
        self.write_block(statement[2])
        jump = self.leave_room()
        self.row[skip] = ("skip", len(self.row))
        self.write_block(statement[3])
        self.row[jump] = ("jump", len(self.row))

    def write_while(self, statement):
        """Write a while: the block jumps back to its test."""
        test = len(self.row)
        self.write(statement[1])
        skip = self.leave_room()
        self.write_block(statement[2])
        self.row.append(("jump", test))
        self.row[skip] = ("skip", len(self.row))

    def write(self, part):
        """Write an expression: its parts, and then what makes it of their values."""
        word = part[0]
        if word == "is":
            self.row.append(("push", part[1]))
        elif word == "var":
            self.row.append(("load", self.words[part[1]]))
        elif word == "get":
            self.write(part[1])
            self.row.append(("get", part[2]))
        elif word == "make":
            self.write_all(part[1])
            self.row.append(("make",))
        elif word == "call":
            self.write_all(part[2])
            self.row.append(("call", self.numbers[part[1]]))
        else:
            self.write_all(part[1:])
            self.row.append((word,))

    def write_all(self, parts):
        """Write expressions one behind another."""
        for part in parts:
            self.write(part)


def compiled(program, wide):
    """The code of a program without faults."""
    check_sound(program, wide)
    writer = Writer(program)
    functions = tuple([writer.write_function(function) for function in program])
    return functions, tuple(writer.row)
