"""Point [60]: programs and their faults."""

import random
import unittest

from asifcopied.errors import BadProgram, BadWide
from asifcopied.programs import faults, is_program

from plain import not_numbers, odd_values
from plain_programs import Author, plain_faults

X, ROOT, ONE = ("var", "x"), ("root",), ("is", 1)
# One of each kind for wide 2, with the kinds of its parts: e an expression, b a block, v a constant, w a word, f a field,
# m the parts of a make, c those of a call.
EXPRESSIONS = [(("is", 5), "v"), (("var", "x"), "w"), (ROOT, ""), (("get", ROOT, 1), "ef"), (("make", (X, ONE)), "m"),
               (("call", "up", (X, ONE)), "wc"), (("plus", ONE, X), "ee"), (("minus", ONE, X), "ee"),
               (("times", ONE, X), "ee"), (("below", ONE, X), "ee"), (("same", ONE, X), "ee"), (("not", X), "e")]
STATEMENTS = [(("let", "y", X), "we"), (("set", ROOT, 1, X), "efe"), (("if", X, (), (("give", X),)), "ebb"),
              (("while", X, (("do", X),)), "eb"), (("give", X), "e"), (("do", X), "e")]
WORDS = ["a", "z", "abcdefghij"]
NO_WORDS = ["", "abcdefghijk", "A", "a1", "a b", "a_", 5, None, True, ("a",), ["a"]]
SPOILT = {
    "e": [None, 5, True, "x", (), ["root"], [], ("root", 1), ("roots",), ("is",), ("var",), ("give", ONE), (None,), (("root",),),
          ("get", ROOT), ("plus", ONE), ("plus", ONE, ONE, ONE), ("not",), ("is", 1, 1), {"root": 1}, ("ROOT",), (True,),
          ["is", 1], ("call", "up"), ("make",), ("not", ["root"]), ("plus", ONE, ["is", 1])],
    "b": [None, [], "", 5, ROOT, (ROOT,), (None,), [("do", ONE)], (["do", ONE],), (("do",),), ("do", ONE), {}],
    "v": [True, False, "1", (), ("to", 0), 10 ** 18, -10 ** 18, [], {}],
    "w": NO_WORDS,
    "f": not_numbers(0, 1),
    "m": [None, (), (ONE,), (ONE, ONE, ONE), [ONE, ONE], (ONE, None), ONE, (ONE, 5)],
    "c": [None, [ONE], (ONE,) * 5, (None,), ONE, 5, (ONE, ["root"])]}


def with_part(statement):
    return (("f", ("x",), (statement,)),)


def spoilt(told, kinds):
    """The value with one part spoilt, or with a part too few or too many."""
    for at, kind in enumerate(kinds, 1):
        for other in SPOILT[kind]:
            yield told[:at] + (other,) + told[at + 1:]
        yield told[:at] + told[at + 1:]
    yield told + (ONE,)
    yield list(told)
    for word in ["", "IS", "gives", None, True, 1, (), "self", ["is"], [], {}, ("is",)]:
        yield (word,) + told[1:]


def nested(levels):
    """A program with a statement on level 1 and expressions down to this level."""
    part = ONE
    for _ in range(levels - 2):
        part = ("not", part)
    return with_part(("do", part))


def nested_blocks(levels):
    """A program with statements down to a level, and an expression one level deeper."""
    block = ()
    for level in range(levels - 1):
        block = ((("while", ONE, block),) if level % 2 else (("if", ONE, (), block),))
    return (("f", (), block),)


class TestIsProgram(unittest.TestCase):
    def test_each_kind(self):
        for told, _ in EXPRESSIONS:
            for statement in [("do", told), ("let", "y", told), ("set", told, 0, ONE), ("set", ONE, 0, told),
                              ("if", told, (), ()), ("while", told, ()), ("give", told)]:
                self.assertIs(is_program(with_part(statement), 2), True, statement)
        for told, _ in STATEMENTS:
            for statement in [told, ("if", ONE, (told,), ()), ("if", ONE, (), (told,)), ("while", ONE, (told, told))]:
                self.assertIs(is_program(with_part(statement), 2), True)

    def test_one_part_spoilt(self):
        for told, kinds in EXPRESSIONS:
            for other in spoilt(told, kinds):
                self.assertIs(is_program(with_part(("do", other)), 2), False, other)
                self.assertIs(is_program(with_part(("give", ("not", other))), 2), False, other)
        for told, kinds in STATEMENTS:
            for other in spoilt(told, kinds):
                self.assertIs(is_program(with_part(other), 2), False, other)
                self.assertIs(is_program(with_part(("while", ONE, (told, other))), 2), False, other)

    def test_parts_of_calls(self):
        for many in range(7):
            self.assertIs(is_program(with_part(("do", ("call", "g", (ONE,) * many))), 1), many <= 4)

    def test_wide(self):
        for wide in range(1, 7):
            for field in range(-1, 8):
                told = with_part(("do", ("get", ROOT, field)))
                self.assertIs(is_program(value=told, wide=wide), 0 <= field < wide)
                self.assertIs(is_program(with_part(("set", ROOT, field, ONE)), wide), 0 <= field < wide)
                self.assertIs(is_program(with_part(("do", ("make", (ONE,) * field))), wide), field == wide)

    def test_functions(self):
        good = [(("f", (), ()),), (("f", ("a", "b", "c", "d"), ()),), (("f", (), ()), ("g", (), ())), (("f", ("f",), ()),)]
        bad = [(), (("f", (), ()), ("f", (), ())), (("f", ("a", "a"), ()),), (("f", ("a", "b", "c", "d", "e"), ()),),
               (("f", ["a"], ()),), (("f", "a", ()),), (("f", None, ()),), (("f", (), []),), (("f", ()),), (("f", (), (), ()),),
               (["f", (), ()],), [("f", (), ())], (None,), (("f", (), None),), {"f": 1}]
        for name in NO_WORDS:
            bad += [((name, (), ()),), (("f", (name,), ()),), (("f", ("a", name), ()),)]
        good += [((word, (word,), ()),) for word in WORDS]
        for value in good:
            self.assertIs(is_program(value, 1), True)
        for value in bad + odd_values():
            self.assertIs(is_program(value, 1), False, value)
            with self.assertRaises(BadProgram):
                faults(value, 1)
        names = ["f" + sign for sign in "abcdefghijklmnopqrstu"]
        self.assertTrue(is_program(tuple((name, (), ()) for name in names[:20]), 1))
        self.assertFalse(is_program(tuple((name, (), ()) for name in names[:21]), 1))

    def test_levels(self):
        self.assertTrue(is_program(nested(16), 1))
        self.assertFalse(is_program(nested(17), 1))
        self.assertTrue(is_program(nested_blocks(16), 1))
        self.assertFalse(is_program(nested_blocks(17), 1))
        deep = ONE
        for _ in range(55):
            deep = ("not", deep)
        self.assertFalse(is_program(with_part(("do", deep)), 1))

    def test_how_many(self):
        """Statements and expressions of all functions together: 1,000 and 1,001."""
        for more in (0, 1):
            one = (("do", ONE),) * 250
            other = (("do", ("not", ONE)),) * (166 + more) + (("give", ONE),) * (1 - more)
            program = (("f", (), one), ("g", (), other))
            self.assertIs(is_program(program, 1), more == 0)
        # The last ones stand in a part of an expression, and in a block of a statement.
        for last in [("do", ("not", ("not", ONE))), ("while", ONE, (("do", ONE),)), ("if", ONE, (), (("do", ONE),))]:
            for more in (0, 1):
                self.assertIs(is_program((("f", (), (("do", ONE),) * (498 + more) + (last,)),), 1), more == 0)
        self.assertTrue(is_program((("f", (), (("do", ONE),) * 500),), 1))
        self.assertFalse(is_program((("f", (), (("do", ONE),) * 500), ("g", (), (("give", ONE),))), 1))
        wide = ONE
        for _ in range(13):
            wide = ("make", (wide,) * 6)
        self.assertFalse(is_program(with_part(("do", wide)), 6))

    def test_bad_wide_comes_first(self):
        for bad in not_numbers(1, 6):
            for call in [lambda: is_program(None, bad), lambda: faults(None, bad)]:
                with self.assertRaises(BadWide):
                    call()


class TestFaults(unittest.TestCase):
    def check(self, block, told, params=("x",)):
        program = (("f", params, block),)
        self.assertEqual(faults(program, 1), [("unset", "f", word) for word in told], block)
        self.assertEqual(plain_faults(program), [("unset", "f", word) for word in told])

    def test_ways(self):
        y, let = ("do", ("var", "y")), ("let", "y", ONE)
        self.check((y,), ["y"])
        self.check((let, y), [])
        self.check((y, let), ["y"])
        self.check((("let", "y", ("var", "y")),), ["y"])
        self.check((("if", X, (let,), (let,)), y), [])
        self.check((("if", X, (let,), ()), y), ["y"])
        self.check((("if", X, (), (let,)), y), ["y"])
        self.check((("if", X, (let,), (("give", X),)), y), [])
        self.check((("if", X, (("give", X),), (let,)), y), [])
        self.check((("if", X, (("give", X),), (("give", X),)), y), ["y"])
        self.check((("if", X, (("give", X),), (("give", X),)), y, let), [])
        self.check((("while", X, (let,)), y), ["y"])
        self.check((("while", X, (let, y)),), [])
        self.check((("while", X, (y, let)),), ["y"])
        self.check((("while", ("var", "y"), (let,)),), ["y"])
        self.check((let, ("while", ("var", "y"), (y,)), y), [])
        self.check((("while", X, (("give", X),)), y), ["y"])
        self.check((("while", X, (("give", X), let)), y), ["y"])
        self.check((("while", ONE, (let,)), y), ["y"])
        self.check((("if", ONE, (let,), ()), y), ["y"])

    def test_code_behind_a_give(self):
        y, let = ("do", ("var", "y")), ("let", "y", ONE)
        self.check((("give", X), y), ["y"])
        self.check((("give", X), y, let), [])
        self.check((("give", X), ("if", ("var", "y"), (let,), ()), y), [])
        self.check((("give", X), ("while", X, (let,)), y), [])
        self.check((("if", X, (("give", X), y), (let,)), y), [])
        self.check((("give", ("var", "y")), let), ["y"])
        program = (("f", (), (("give", ONE), ("do", ("call", "g", ())), ("do", ("call", "f", (ONE,))))),)
        self.assertEqual(faults(program, 1), [("call", "f", "g"), ("many", "f", "f")])

    def test_calls(self):
        program = (("up", ("x",), (("give", ("call", "down", (X, X))), ("do", ("call", "no", (("call", "up", ()),))))),
                   ("down", ("x",), (("do", ("call", "up", (X,))), ("do", ("call", "no", ())), ("do", ("var", "z")),
                                     ("let", "w", ("plus", ("var", "z"), ("var", "w"))))))
        told = [("call", "down", "no"), ("call", "up", "no"), ("many", "up", "down"), ("many", "up", "up"),
                ("unset", "down", "w"), ("unset", "down", "z")]
        self.assertEqual(faults(program=program, wide=1), told)
        self.assertEqual(plain_faults(program), told)
        self.assertIsNot(faults(program, 1), faults(program, 1))

    def test_params_are_set(self):
        self.check((("do", ("var", "a")), ("do", ("var", "d")), ("do", ("var", "e"))), ["e"], ("a", "b", "c", "d"))

    def test_drawn(self):
        kinds = {}
        for seed in range(400):
            rng = random.Random(seed)
            program = Author(rng, 1 + seed % 3).program()
            # Some words are changed, so that there are faults of all kinds.
            program = changed(rng, program)
            self.assertTrue(is_program(program, 1 + seed % 3))
            told = faults(program, 1 + seed % 3)
            self.assertEqual(told, plain_faults(program), program)
            kinds.update({fault[0]: True for fault in told})
        self.assertEqual(set(kinds), {"call", "many", "unset"})


def changed(rng, value):
    """The program with some words for variables and functions changed."""
    if not isinstance(value, tuple):
        return value
    if len(value) == 2 and value[0] == "var" and rng.random() < 0.2:
        return ("var", rng.choice("abcxyz"))
    if len(value) == 3 and value[0] == "call" and rng.random() < 0.2:
        return ("call", rng.choice("fghi"), changed(rng, value[2]))
    return tuple(changed(rng, part) for part in value)


if __name__ == "__main__":
    unittest.main()
