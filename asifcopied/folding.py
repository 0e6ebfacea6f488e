"""Folding: what is plain without a run is worked out ahead, and what no run comes to is left out."""

from asifcopied.checks import TOO_GREAT, is_number
from asifcopied.piles import is_true
from asifcopied.programs import check_sound

IDLE = ("is", "var", "root")


def counted(word, one, other):
    """What comes of two numbers, None if it has too many digits."""
    if word == "below":
        return 1 if one < other else 0
    if word == "plus":
        number = one + other
    elif word == "minus":
        number = one - other
    else:
        number = one * other
    return number if abs(number) < TOO_GREAT else None


def worked_out(word, constants):
    """The number that an expression gives whose parts are these constants, None if it has to be left."""
    if word == "not":
        return 0 if is_true(constants[0]) else 1
    if word == "same":
        return 1 if constants[0] == constants[1] else 0
    if not all([is_number(constant) for constant in constants]):
        return None
    return counted(word, constants[0], constants[1])


def folded_plain(word, parts):
    """An expression of a word and folded parts, folded."""
    if parts and not [1 for part in parts if part[0] != "is"]:
        number = worked_out(word, [part[1] for part in parts])
        if number is not None:
            return "is", number
    return (word,) + tuple(parts)


def folded_part(part):
    """An expression, folded."""
    word = part[0]
    if word in ("is", "var"):
        return part
    if word == "get":
        return word, folded_part(part[1]), part[2]
    if word == "make":
        return word, tuple([folded_part(inner) for inner in part[1]])
    if word == "call":
        return word, part[1], tuple([folded_part(inner) for inner in part[2]])
    return folded_plain(word, [folded_part(inner) for inner in part[1:]])


def is_ended(block):
    """Whether a folded block is ended by its last statement."""
    if not block:
        return False
    last = block[-1]
    return last[0] == "give" or last[0] == "if" and is_ended(last[2]) and is_ended(last[3])


def folded_test(statement):
    """The list of the statements that stand for an if or a while."""
    word = statement[0]
    test = folded_part(statement[1])
    if word == "if" and test[0] == "is":
        return folded_block(statement[2] if is_true(test[1]) else statement[3])
    if word == "while" and test[0] == "is" and not is_true(test[1]):
        return []
    return [(word, test) + tuple([tuple(folded_block(block)) for block in statement[2:]])]


def folded_statement(statement):
    """The list of the statements that stand for a statement."""
    word = statement[0]
    if word in ("if", "while"):
        return folded_test(statement)
    if word == "let":
        return [(word, statement[1], folded_part(statement[2]))]
    if word == "set":
        return [(word, folded_part(statement[1]), statement[2], folded_part(statement[3]))]
    part = folded_part(statement[1])
    if word == "do" and part[0] in IDLE:
        return []
    return [(word, part)]


def folded_block(block):
    """The list of the statements of a block, folded, up to one that ends it."""
    told = []
    for statement in block:
        told.extend(folded_statement(statement))
        if is_ended(told):
            break
    return told


def folded(program, wide):
    """A program that does the same, in which nothing can be folded."""
    check_sound(program, wide)
    return tuple([(name, params, tuple(folded_block(block))) for name, params, block in program])
