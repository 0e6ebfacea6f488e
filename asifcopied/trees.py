"""A program for a set of numbers, kept in a search tree with levels."""

from asifcopied.queues import EMPTY, NOUGHT, ONE, ROOT, held, lay, let, var

KEY = 0
LEVEL = 1
LEFT = 2
RIGHT = 3
TOP = ("get", ("root",), 0)
AT = ("var", "at")
X = ("var", "x")


def call(word, *parts):
    """What a call of a function gives."""
    return "call", word, parts


def below(one, other):
    """Whether one number is less than another one."""
    return "below", one, other


def give(part):
    """The call ends with a value."""
    return "give", part


def unless(part, block):
    """A block that is done if the value does not hold."""
    return "if", part, (), block


def led(part, field, value):
    """A field gets a value, if that is another one than it has: no deed says what is so already."""
    return (let("new", value), unless(("same", var("new"), held(part, field)), (lay(part, field, var("new")),)))


def going_down(there):
    """Go from the top down towards x; there is the block that is done where x is the key."""
    not_left = ("if", below(held(AT, KEY), X), (let("at", held(AT, RIGHT)),), there)
    turn = ("if", below(X, held(AT, KEY)), (let("at", held(AT, LEFT)),), (not_left,))
    return (let("at", TOP), ("while", AT, (turn,)))


def above_block():
    """The least key that is greater than x: the last one from which the way goes to the left."""
    turn = ("if", below(X, held(AT, KEY)),
            (let("best", held(AT, KEY)), let("at", held(AT, LEFT))),
            (let("at", held(AT, RIGHT)),))
    return (let("best", EMPTY), let("at", TOP), ("while", AT, (turn,)), give(var("best")))


def counted_block():
    """How many records stand below at, itself among them."""
    sides = ("plus", call("counted", held(AT, LEFT)), call("counted", held(AT, RIGHT)))
    return (unless(AT, (give(NOUGHT),)), give(("plus", ONE, sides)))


def level_block():
    """The level of at, 0 for None."""
    return (unless(AT, (give(NOUGHT),)), give(held(AT, LEVEL)))


def skew_block():
    """If the left one has the level of at, it gets above at."""
    low = var("low")
    turned = (lay(AT, LEFT, held(low, RIGHT)), lay(low, RIGHT, AT), give(low))
    return (unless(AT, (give(EMPTY),)),
            let("low", held(AT, LEFT)),
            ("if", low, (("if", ("same", held(low, LEVEL), held(AT, LEVEL)), turned, ()),), ()),
            give(AT))


def split_block():
    """If the right one of the right one has the level of at, the right one gets above both, a level higher."""
    high = var("high")
    turned = (lay(AT, RIGHT, held(high, LEFT)),
              lay(high, LEFT, AT),
              lay(high, LEVEL, ("plus", held(high, LEVEL), ONE)),
              give(high))
    alike = ("same", call("level", held(high, RIGHT)), held(AT, LEVEL))
    return (unless(AT, (give(EMPTY),)),
            let("high", held(AT, RIGHT)),
            ("if", high, (("if", alike, turned, ()),), ()),
            give(AT))


def grown_block():
    """What stands in the place of at when x, which is no key below it, is put there."""
    return (unless(AT, (give(("make", (X, ONE, EMPTY, EMPTY))),)),
            ("if", below(X, held(AT, KEY)),
             led(AT, LEFT, call("grown", held(AT, LEFT), X)),
             led(AT, RIGHT, call("grown", held(AT, RIGHT), X))),
            give(call("split", call("skew", AT))))


def least_block():
    """The least key below at."""
    return (("while", held(AT, LEFT), (let("at", held(AT, LEFT)),)), give(held(AT, KEY)))


def cut_block():
    """What stands in the place of at when x, a key below it or its own, is gone.

    A record that has both sides gets the next key instead, which is then cut on its right. One that has no left side
    is itself what goes: it leads nowhere then, so that what it led to is led to from one field alone.
    """
    taken = (let("rest", held(AT, RIGHT)), lay(AT, RIGHT, EMPTY), give(var("rest")))
    found = (unless(held(AT, LEFT), taken), lay(AT, KEY, call("least", held(AT, RIGHT))))
    found = found + led(AT, RIGHT, call("cut", held(AT, RIGHT), held(AT, KEY)))
    not_left = ("if", below(held(AT, KEY), X), led(AT, RIGHT, call("cut", held(AT, RIGHT), X)), found)
    return (("if", below(X, held(AT, KEY)), led(AT, LEFT, call("cut", held(AT, LEFT), X)), (not_left,)),
            give(call("mended", AT)))


def mended_block():
    """What stands in the place of at when one of its sides may have lost a level."""
    right = held(AT, RIGHT)
    lowered = (lay(AT, LEVEL, var("due")),
               ("if", below(var("due"), call("level", right)), (lay(right, LEVEL, var("due")),), ()))
    skewed = (let("at", call("skew", AT)),) + led(AT, RIGHT, call("skew", right))
    skewed = skewed + (("if", right, led(right, RIGHT, call("skew", held(right, RIGHT))), ()),)
    halved = (let("at", call("split", AT)),) + led(AT, RIGHT, call("split", right))
    return (let("due", call("level", held(AT, LEFT))),
            ("if", below(call("level", right), var("due")), (let("due", call("level", right)),), ()),
            let("due", ("plus", var("due"), ONE)),
            ("if", below(var("due"), held(AT, LEVEL)), lowered + skewed + halved, ()),
            give(AT))


def tree_program():
    """A program for a set of numbers: has, put, drop, many and above."""
    put = (("if", call("has", X), (give(NOUGHT),), led(ROOT, 0, call("grown", TOP, X)) + (give(ONE),)),)
    drop = (("if", call("has", X), led(ROOT, 0, call("cut", TOP, X)) + (give(ONE),), (give(NOUGHT),)),)
    return (("has", ("x",), going_down((give(ONE),)) + (give(NOUGHT),)),
            ("put", ("x",), put),
            ("drop", ("x",), drop),
            ("many", (), (give(call("counted", TOP)),)),
            ("above", ("x",), above_block()),
            ("counted", ("at",), counted_block()),
            ("level", ("at",), level_block()),
            ("skew", ("at",), skew_block()),
            ("split", ("at",), split_block()),
            ("grown", ("at", "x"), grown_block()),
            ("least", ("at",), least_block()),
            ("cut", ("at", "x"), cut_block()),
            ("mended", ("at",), mended_block()))
