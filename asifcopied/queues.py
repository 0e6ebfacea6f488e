"""Programs for a queue in two rows, and for a row with two ends."""

ROOT = ("root",)
EMPTY = ("is", None)
NOUGHT = ("is", 0)
ONE = ("is", 1)


def var(word):
    """What a variable holds."""
    return "var", word


def held(part, field):
    """What a field of a record holds."""
    return "get", part, field


def let(word, part):
    """A variable gets a value."""
    return "let", word, part


def lay(part, field, value):
    """A field of a record gets a value."""
    return "set", part, field, value


def turned_about():
    """While there is a back, its first record goes to the beginning of the front."""
    return ("while", held(ROOT, 1), (
        let("item", held(ROOT, 1)),
        lay(ROOT, 1, held(var("item"), 1)),
        lay(var("item"), 1, held(ROOT, 0)),
        lay(ROOT, 0, var("item"))))


def counting(field):
    """Count the records of a row of the queue, on from what was counted."""
    return (let("item", held(ROOT, field)),
            ("while", var("item"), (
                let("many", ("plus", var("many"), ONE)),
                let("item", held(var("item"), 1)))))


def queue_take():
    """The block that takes the first item of a queue, and lets its record lead nowhere."""
    taken = (let("item", held(ROOT, 0)),
             lay(ROOT, 0, held(var("item"), 1)),
             lay(var("item"), 1, EMPTY),
             ("give", held(var("item"), 0)))
    return (("if", held(ROOT, 0), (), (turned_about(),)), ("if", held(ROOT, 0), taken, ()))


def queue_program():
    """A program for a queue."""
    put = (lay(ROOT, 1, ("make", (var("x"), held(ROOT, 1)))),)
    size = (let("many", NOUGHT),) + counting(0) + counting(1) + (("give", var("many")),)
    return (("put", ("x",), put), ("take", (), queue_take()), ("size", (), size))


def end_put(end, far, outer, inner):
    """The block that puts an item at an end.

    The root's fields end and far lead to this end and to the other one; a record's field outer leads towards this
    end, its field inner to the other side.
    """
    fresh = ("make", (var("x"), EMPTY, var("old")) if inner == 2 else (var("x"), var("old"), EMPTY))
    return (let("old", held(ROOT, end)),
            let("new", fresh),
            lay(ROOT, end, var("new")),
            ("if", var("old"), (lay(var("old"), outer, var("new")),), (lay(ROOT, far, var("new")),)),
            ("if", held(ROOT, 2), (lay(ROOT, 2, ("plus", held(ROOT, 2), ONE)),), (lay(ROOT, 2, ONE),)))


def end_take(end, far, outer, inner):
    """The block that takes the item at an end, and lets its record lead nowhere."""
    taken = (let("next", held(var("old"), inner)),
             lay(ROOT, end, var("next")),
             ("if", var("next"), (lay(var("next"), outer, EMPTY),), (lay(ROOT, far, EMPTY),)),
             lay(var("old"), inner, EMPTY),
             lay(ROOT, 2, ("minus", held(ROOT, 2), ONE)),
             ("give", held(var("old"), 0)))
    return (let("old", held(ROOT, end)), ("if", var("old"), taken, ()))


def ends_turn():
    """The block that lets the items stand the other way about."""
    return (let("old", held(ROOT, 0)),
            lay(ROOT, 0, held(ROOT, 1)),
            lay(ROOT, 1, var("old")),
            ("while", var("old"), (
                let("next", held(var("old"), 2)),
                lay(var("old"), 2, held(var("old"), 1)),
                lay(var("old"), 1, var("next")),
                let("old", var("next")))))


def ends_program():
    """A program for a row with two ends."""
    size = (("if", held(ROOT, 2), (("give", held(ROOT, 2)),), ()), ("give", NOUGHT))
    return (("first", ("x",), end_put(0, 1, 1, 2)), ("last", ("x",), end_put(1, 0, 2, 1)),
            ("unfirst", (), end_take(0, 1, 1, 2)), ("unlast", (), end_take(1, 0, 2, 1)),
            ("turn", (), ends_turn()), ("size", (), size))
