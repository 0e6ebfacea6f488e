"""The words of [60], [61] and [65], read plainly: an interpreter, ways through functions, a look for what can be folded."""

import sys

from asifcopied.programs import faults

GREATEST = 10 ** 18 - 1
# Calls lie one within another here: 40 of them, with 16 levels each.
sys.setrecursionlimit(max(20000, sys.getrecursionlimit()))


class Stop(Exception):
    pass


class Given(Exception):
    pass


def lead(value):
    return isinstance(value, tuple)


def holds(value):
    return value is not None and value != 0


class PlainRun:
    """Runs a program by its words, in a heap that is a list of lists."""

    def __init__(self, program, heap, wide, most):
        self.functions = {name: (params, block) for name, params, block in program}
        self.rows = [list(row) for row in heap]
        self.wide = wide
        self.most = most
        self.steps = 0
        self.calls = 0
        self.deed = []

    def tick(self, word=None):
        """Do a step, or stop with a word."""
        if self.steps == self.most:
            raise Stop("steps")
        if word is not None:
            raise Stop(word)
        self.steps += 1

    def call(self, name, given):
        params, block = self.functions[name]
        known = dict(zip(params, given))
        self.calls += 1
        value = None
        try:
            self.block(block, known)
            self.tick()
            self.tick()
        except Given as told:
            value = told.args[0]
        self.calls -= 1
        return value

    def block(self, block, known):
        for statement in block:
            getattr(self, "do_" + statement[0])(statement, known)

    def do_let(self, statement, known):
        value = self.work(statement[2], known)
        self.tick()
        known[statement[1]] = value

    def do_set(self, statement, known):
        place = self.work(statement[1], known)
        value = self.work(statement[3], known)
        self.tick(None if lead(place) else "kind")
        self.rows[place[1]][statement[2]] = value
        self.deed.append(("set", place[1], statement[2], value))

    def do_if(self, statement, known):
        value = self.work(statement[1], known)
        self.tick()
        if holds(value):
            self.block(statement[2], known)
            self.tick()
        else:
            self.block(statement[3], known)

    def do_while(self, statement, known):
        while True:
            value = self.work(statement[1], known)
            self.tick()
            if not holds(value):
                return
            self.block(statement[2], known)
            self.tick()

    def do_give(self, statement, known):
        value = self.work(statement[1], known)
        self.tick()
        raise Given(value)

    def do_do(self, statement, known):
        self.work(statement[1], known)
        self.tick()

    def work(self, part, known):
        word = part[0]
        if word in ("is", "var", "root"):
            self.tick()
            return part[1] if word == "is" else known[part[1]] if word == "var" else ("to", 0)
        if word == "get":
            place = self.work(part[1], known)
            self.tick(None if lead(place) else "kind")
            return self.rows[place[1]][part[2]]
        if word == "make":
            values = [self.work(inner, known) for inner in part[1]]
            self.tick()
            self.rows.append(values)
            self.deed.append(("make", tuple(values)))
            return ("to", len(self.rows) - 1)
        if word == "call":
            values = [self.work(inner, known) for inner in part[2]]
            self.tick("deep" if self.calls == 40 else None)
            return self.call(part[1], values)
        values = [self.work(inner, known) for inner in part[1:]]
        return self.plain(word, values)

    def plain(self, word, values):
        if word in ("same", "not"):
            self.tick()
            return int(values[0] == values[1]) if word == "same" else int(not holds(values[0]))
        if any(value is None or lead(value) for value in values):
            self.tick("kind")
        one, other = values
        told = {"plus": one + other, "minus": one - other, "times": one * other, "below": int(one < other)}[word]
        self.tick("great" if abs(told) > GREATEST else None)
        return told


def plain_run(program, heap, wide, name, given, most):
    """("gave", value, deed, steps) or ("stopped", word, steps)."""
    run = PlainRun(program, heap, wide, most)
    try:
        value = run.call(name, given)
    except Stop as told:
        return "stopped", told.args[0], run.steps
    return "gave", value, run.deed, run.steps


def parts_in(part):
    """All expressions in an expression, itself among them."""
    inner = {"is": (), "var": (), "get": part[1:2], "make": part[1] if len(part) > 1 else (),
             "call": part[2] if len(part) > 2 else ()}.get(part[0], part[1:])
    return [part] + [one for told in inner for one in parts_in(told)]


def tops_of(statement):
    return {"let": statement[2:3], "set": statement[1::2]}.get(statement[0], statement[1:2])


def blocks_of(statement):
    return statement[2:] if statement[0] in ("if", "while") else ()


def statements_in(block):
    """All statements in a block, at all depths."""
    return [one for statement in block for one in [statement] + [
        inner for deeper in blocks_of(statement) for inner in statements_in(deeper)]]


def plain_faults(program):
    """Ways are followed with all sets of variables that they may have set, whiles up to two turns."""
    counts = {name: len(params) for name, params, _ in program}
    told = set()
    for name, params, block in program:
        def follow(block, states):
            for statement in block:
                reads = [part[1] for top in tops_of(statement) for part in parts_in(top) if part[0] == "var"]
                for state in states:
                    told.update(("unset", name, word) for word in reads if word not in state)
                if statement[0] == "let":
                    states = {state | {statement[1]} for state in states}
                elif statement[0] == "give":
                    states = set()
                elif statement[0] == "if":
                    states = follow(statement[2], states) | follow(statement[3], states)
                elif statement[0] == "while":
                    for _ in range(2):
                        states = states | follow(statement[2], states)
                        for state in states:
                            told.update(("unset", name, word) for word in reads if word not in state)
            return states

        follow(block, {frozenset(params)})
        statements = statements_in(block)
        lets = {statement[1] for statement in statements if statement[0] == "let"}
        for part in [part for statement in statements for top in tops_of(statement) for part in parts_in(top)]:
            if part[0] == "var" and part[1] not in lets and part[1] not in params:
                told.add(("unset", name, part[1]))
            if part[0] == "call" and part[1] not in counts:
                told.add(("call", name, part[1]))
            elif part[0] == "call" and counts[part[1]] != len(part[2]):
                told.add(("many", name, part[1]))
    return sorted(told)


def is_number(value):
    return value is not None and not lead(value)


def can_fold_part(part):
    """Whether the expression itself, its parts aside, can be folded."""
    word, inner = part[0], part[1:]
    if word not in ("plus", "minus", "times", "below", "same", "not") or any(one[0] != "is" for one in inner):
        return False
    values = [one[1] for one in inner]
    if word in ("same", "not"):
        return True
    if not all(is_number(value) for value in values):
        return False
    one, other = values
    return abs({"plus": one + other, "minus": one - other, "times": one * other, "below": 0}[word]) <= GREATEST


def is_ending(statement):
    if statement[0] == "give":
        return True
    return statement[0] == "if" and all(any(is_ending(one) for one in block) for block in statement[2:])


def can_fold(program):
    """Whether anything in the program can be folded."""
    for _, _, block in program:
        for statement in statements_in(block):
            top = tops_of(statement)[0]
            if statement[0] == "if" and top[0] == "is":
                return True
            if statement[0] == "while" and top[0] == "is" and not holds(top[1]):
                return True
            if statement[0] == "do" and top[0] in ("is", "var", "root"):
                return True
            if any(can_fold_part(part) for one in tops_of(statement) for part in parts_in(one)):
                return True
        rows = [block] + [deeper for statement in statements_in(block) for deeper in blocks_of(statement)]
        if any(is_ending(statement) for row in rows for statement in row[:-1]):
            return True
    return False


class Author:
    """Draws programs; most of them have no faults, and most runs of them give."""

    def __init__(self, rng, wide):
        self.rng = rng
        self.wide = wide
        self.left = 60

    def constant(self):
        return ("is", self.rng.choice([None, 0, 1, 2, 3, -1, 10 ** 9, GREATEST]))

    def part(self, known, deep):
        rng = self.rng
        self.left -= 1
        if deep == 0 or self.left <= 0 or rng.random() < 0.25:
            told = [("root",), self.constant(), ("is", rng.randrange(3))]
            return rng.choice(told + [("var", word) for word in known] * 2)
        word = rng.choice(["get", "get", "make", "call", "plus", "plus", "minus", "times", "below", "same", "not", "root"])
        if word == "get":
            inner = ("root",) if rng.random() < 0.7 else self.part(known, deep - 1)
            return ("get", inner, rng.randrange(self.wide))
        if word == "make":
            return ("make", tuple(self.part(known, deep - 1) for _ in range(self.wide)))
        if word == "call":
            name, many = rng.choice(self.names)
            return ("call", name, tuple(self.part(known, deep - 1) for _ in range(many)))
        if word == "root":
            return ("root",)
        many = 1 if word == "not" else 2
        if word in ("plus", "minus", "times", "below") and rng.random() < 0.6:
            return (word,) + tuple(("is", rng.randrange(4)) for _ in range(many))
        return (word,) + tuple(self.part(known, deep - 1) for _ in range(many))

    def block(self, known, deep, many):
        told = []
        for _ in range(many):
            statement, known = self.statement(known, deep)
            told.append(statement)
        return tuple(told)

    def statement(self, known, deep):
        rng = self.rng
        kinds = ["let", "let", "let", "set", "set", "do", "give"] + (["if", "while"] * 2 if deep else [])
        kind = rng.choice(kinds)
        if kind == "let":
            word = rng.choice(["a", "b", "c"])
            return ("let", word, self.part(known, 3)), known + [word] * (word not in known)
        if kind == "set":
            place = ("root",) if rng.random() < 0.8 else self.part(known, 2)
            return ("set", place, rng.randrange(self.wide), self.part(known, 2)), known
        if kind in ("do", "give"):
            return (kind, self.part(known, 3)), known
        test = self.constant() if rng.random() < 0.25 else self.part(known, 2)
        blocks = tuple(self.block(known, deep - 1, rng.randrange(3)) for _ in range(2 if kind == "if" else 1))
        return (kind, test) + blocks, known

    def program(self):
        rng = self.rng
        self.names = [(word, rng.randrange(3)) for word in ("f", "g", "h")[:1 + rng.randrange(3)]]
        told = []
        for name, many in self.names:
            params = ["x", "y"][:many]
            told.append((name, tuple(params), self.block(params, 2, 1 + rng.randrange(5))))
        return tuple(told)


def drawn_program(rng, wide):
    """A program without faults."""
    while True:
        program = Author(rng, wide).program()
        if not faults(program, wide):
            return program


def drawn_given(rng, program, heap):
    """A function's name, and as many values as it has params."""
    name, params, _ = rng.choice(program)
    return name, [rng.choice([None, 0, 1, 5, -2, ("to", rng.randrange(len(heap)))]) for _ in params]
