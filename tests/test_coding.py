"""Point [62]: right codes, heights, and the code of a program."""

import random
import unittest

from asifcopied.coding import compiled, heights, is_code
from asifcopied.errors import BadCode, BadProgram, BadWide

from plain import not_numbers, odd_values
from plain_programs import Author, drawn_program, plain_faults
from test_programs import NO_WORDS, WORDS, changed

X, ROOT, ONE = ("var", "x"), ("root",), ("is", 1)
# The example of [65].
UP = (("up", ("x",), (
    ("let", "y", ("get", ROOT, 0)),
    ("if", ("var", "y"), (("set", ("var", "y"), 1, ("plus", ("get", ("var", "y"), 1), X)),),
     (("set", ROOT, 0, ("make", (("is", None), X))),)),
    ("give", ("get", ("get", ROOT, 0), 1)))),)
# For each word what it takes and puts, for wide 2.
MOVES = {"push": (0, 1), "root": (0, 1), "load": (0, 1), "store": (1, 0), "get": (1, 1), "put": (2, 0), "make": (2, 1),
         "give": (1, 0), "drop": (1, 0), "jump": (0, 0), "skip": (1, 0), "plus": (2, 1), "minus": (2, 1), "times": (2, 1),
         "below": (2, 1), "same": (2, 1), "not": (1, 1)}
HALT = (("push", None), ("give",))
CODE = ((("f", 0, 1, 2), ("g", 4, 2, 2)),
        (("load", 0), ("push", 3), ("call", 1), ("give",), ("load", 0), ("skip", 7), ("jump", 4), ("push", None), ("give",)))


def plain_heights(code, wide):
    """All pairs of a place and a height that can be come to; None for a code that is not right."""
    functions, row = code
    told = {}
    for at, (_, begin, _, _) in enumerate(functions):
        end = functions[at + 1][1] if at + 1 < len(functions) else len(row)
        waiting, met = [(begin, 0)], set()
        while waiting:
            place, height = waiting.pop()
            if (place, height) in met:
                continue
            if not begin <= place < end or told.get(place, height) != height:
                return None
            met.add((place, height))
            told[place] = height
            word = row[place][0]
            takes, puts = MOVES.get(word, (0, 1))
            if word == "make":
                takes = wide
            if word == "call":
                takes = functions[row[place][1]][2]
            if height < takes:
                return None
            if word not in ("give", "jump"):
                waiting.append((place + 1, height - takes + puts))
            if word in ("jump", "skip"):
                waiting.append((row[place][1], height - takes + puts))
    return tuple(told.get(place) for place in range(len(row)))


def one(*row, params=0, places=0):
    """A code of one function."""
    return (("f", 0, params, places),), row


class TestIsCode(unittest.TestCase):
    def test_right(self):
        for code in [CODE, one(*HALT), one(("jump", 0)), one(("push", 1), ("skip", 0), ("jump", 0)),
                     one(("load", 999), ("give",), places=1000), one(("load", 3), ("store", 0), *HALT, params=4, places=4)]:
            self.assertIs(is_code(code, 2), True, code)
            self.assertEqual(heights(code, 2), plain_heights(code, 2))
        self.assertEqual(heights(code=CODE, wide=2), (0, 1, 2, 1, 0, 1, 0, 0, 1))
        self.assertIs(is_code(value=one(("root",), ("root",), ("make",), ("give",)), wide=2), True)
        for wide in range(1, 7):
            for many in range(8):
                self.assertIs(is_code(one(*[("root",)] * many, ("make",), ("give",)), wide), many >= wide)

    def test_each_instruction(self):
        """Each with as many values as it takes, and with one fewer; and what stays behind it."""
        worths = {"push": 5, "load": 0, "store": 0, "get": 1, "put": 1}
        for word, (takes, puts) in MOVES.items():
            row = [("push", None)] * takes
            if word in ("jump", "skip"):
                row.append((word, takes + 1))
            else:
                row.append((word, worths[word]) if word in worths else (word,))
            code = one(*row, *HALT, places=1)
            self.assertIs(is_code(code, 2), True, word)
            told = heights(code, 2)
            self.assertEqual(told[takes], takes)
            self.assertEqual(told[takes + 1], None if word == "give" else puts)
            if takes:
                self.assertIs(is_code(one(*row[1:], *HALT, places=1), 2), False, word)

    def test_never_come_to(self):
        code = one(*HALT, ("drop",), ("plus",), ("jump", 2), ("push", 1))
        self.assertEqual(heights(code, 1), (0, 1, None, None, None, None))
        self.assertEqual(heights(one(("jump", 2), ("push", 7), *HALT), 1), (0, None, 0, 1))
        # What is never come to has to be an instruction all the same.
        for bad in [("load", 0), ("get", 1), ("jump", 9), ("jump", 3), ("skip", 3), ("push", True), ("what",), ("what", 1), None,
                    ["drop"], (["drop"],), ([], 1), ({}, 0)]:
            self.assertIs(is_code(one(*HALT, bad), 1), False, bad)
        for at in range(3):
            self.assertIs(is_code(one(*HALT, ("jump", at)), 1), True)
            # The next function begins at place 3: no jump goes there.
            functions = (("f", 0, 0, 0), ("g", 3, 0, 0))
            self.assertIs(is_code((functions, HALT + (("jump", at),) + HALT), 1), True)
            self.assertIs(is_code((functions, HALT + (("skip", 3 + at),) + HALT), 1), False)

    def test_wrong_heights(self):
        bad = [one(("push", 1)), one(("jump", 1)), one(("push", 1), ("skip", 3), ("jump", 0)), one(("drop",), *HALT),
               one(("push", 1), ("jump", 0)), one(("push", 1), ("skip", 3), ("push", 2), *HALT),
               one(("push", 1), ("store", 0), places=1), one(("give",)), one(("push", 1), ("push", 2), ("drop",)),
               one(("push", 1), ("call", 0), ("give",), params=2, places=2),
               ((("f", 0, 0, 0), ("g", 1, 0, 0)), (("push", 1), ("give",))),
               ((("f", 0, 0, 0), ("g", 2, 0, 0)), HALT + (("push", 1), ("skip", 3)))]
        for code in bad:
            self.assertIs(is_code(code, 2), False, code)
            self.assertIsNone(plain_heights(code, 2))
            with self.assertRaises(BadCode):
                heights(code, 2)

    def test_functions_spoilt(self):
        functions, row = CODE
        bad = [(), [("f", 0, 1, 2), ("g", 4, 2, 2)], None, functions + (None,), functions + (["h", 5, 0, 0],), functions[1:],
               functions + (("h", 9, 0, 0),), functions + (("f", 5, 0, 0),), functions + (("h", 5, 0),),
               functions + (("h", 5, 0, 0, 0),)]
        for at, function in enumerate(functions):
            parts = [NO_WORDS + ["f", "g"], [-1, 1, True, False, None, "0", 9, 10 ** 18, (0,)],
                     [-1, 5, True, None, "1", 3], [-1, 0, 1001, True, None, "2"]]
            for place, others in enumerate(parts):
                for other in others:
                    if other == function[place] and type(other) is type(function[place]):
                        continue
                    if at == 1 and place == 1 and other == 1 and other is not True:
                        continue
                    bad.append(functions[:at] + (function[:place] + (other,) + function[place + 1:],) + functions[at + 1:])
        for other in bad:
            self.assertIs(is_code((other, row), 2), False, other)
        for word in WORDS:
            self.assertIs(is_code((((word, 0, 0, 0),), HALT), 2), True)
        for begins, right in [((0, 1, 2), True), ((0, 2, 4), True), ((0, 0, 1), False), ((0, 2, 2), False), ((0, 4, 2), False),
                              ((1, 2, 4), False), ((0, 2, 5), False), ((0, 2, 6), False)]:
            functions = tuple((name, begin, 0, 0) for name, begin in zip("fgh", begins))
            row = (("jump", 0), ("jump", 1)) + HALT + HALT if begins == (0, 1, 2) else HALT * 3
            self.assertIs(is_code((functions, row), 2), right, begins)

    def test_row_spoilt(self):
        functions, row = CODE
        bad = [(), list(row), None, row + (None,), "row"]
        others = [None, 5, (), [], ("load",), ("load", 2), ("load", -1), ("load", True), ("load", None), ("load", 0, 0),
                  ["load", 0], ("store", 2), ("push",), ("push", True), ("push", "1"), ("push", ("to", 0)), ("push", 10 ** 18),
                  ("call", 2), ("call", -1), ("call", True), ("call", "g"), ("give", 1), ("drops",), ("jump",), ("jump", True),
                  ("jump", -1), ("jump", 9), ("skip", 9), ("skip", None), ("get", 2), ("get", -1), ("put", True), ("root", 0),
                  ("make", 2), (None,), (True,), ("",), "drop"]
        for at in range(len(row)):
            out = [("jump", 4), ("jump", 8), ("skip", 4)] if at < 4 else [("jump", 3), ("jump", 0), ("skip", 3)]
            for other in others + out:
                bad.append(row[:at] + (other,) + row[at + 1:])
        for other in bad:
            self.assertIs(is_code((functions, other), 2), False, other)

    def test_any_value(self):
        for value in odd_values() + [(CODE[0],), CODE + (None,), list(CODE), (CODE[1], CODE[0])]:
            self.assertIs(is_code(value, 1), False, value)
            with self.assertRaises(BadCode):
                heights(value, 1)

    def test_limits(self):
        names = ["f" + sign for sign in "abcdefghijklmnopqrstu"]
        for many in (20, 21):
            functions = tuple((name, 2 * at, 0, 0) for at, name in enumerate(names[:many]))
            self.assertIs(is_code((functions, HALT * many), 1), many == 20)
        for many in (8000, 8001):
            row = (("push", 1),) * (many - 2) + (("push", 1), ("give",))
            self.assertIs(is_code(one(*row), 1), many == 8000)
        self.assertEqual(heights(one(*(("push", 1),) * 7999, ("give",)), 1), tuple(range(8000)))
        for params, places, right in [(4, 4, True), (4, 1000, True), (5, 5, False), (0, 1001, False), (3, 2, False)]:
            self.assertIs(is_code(one(*HALT, params=params, places=places), 1), right)

    def test_codes_bent_in_one_place(self):
        told = {}
        for seed in range(150):
            rng = random.Random(seed)
            wide = 2
            functions, row = compiled(drawn_program(rng, wide), wide)
            for _ in range(12):
                at = rng.randrange(len(row))
                function = [function for function in functions if function[1] <= at][-1]
                ends = [other[1] for other in functions if other[1] > at] + [len(row)]
                word = rng.choice(list(MOVES) + ["call"])
                if word in ("jump", "skip"):
                    other = (word, rng.randrange(function[1], ends[0]))
                elif word in ("load", "store"):
                    other = (word, rng.randrange(function[3])) if function[3] else ("root",)
                elif word == "call":
                    other = (word, rng.randrange(len(functions)))
                else:
                    other = (word, 1) if word in ("push", "get", "put") else (word,)
                code = (functions, row[:at] + (other,) + row[at + 1:])
                right = plain_heights(code, wide)
                self.assertIs(is_code(code, wide), right is not None, code)
                if right is not None:
                    self.assertEqual(heights(code, wide), right)
                told[right is not None] = True
        self.assertEqual(len(told), 2)

    def test_bad_wide_comes_first(self):
        for bad in not_numbers(1, 6):
            for call in [lambda: is_code(None, bad), lambda: heights(None, bad), lambda: compiled(None, bad)]:
                with self.assertRaises(BadWide):
                    call()


class TestCompiled(unittest.TestCase):
    def code_of(self, *block, params=("x",), wide=2):
        functions, row = compiled((("f", params, block),), wide)
        self.assertEqual(functions[0][:3], ("f", 0, len(params)))
        self.assertEqual(row[-2:], HALT)
        return row[:-2]

    def test_expressions(self):
        for part, row in [(("is", None), [("push", None)]), (("is", 7), [("push", 7)]), (X, [("load", 0)]), (ROOT, [("root",)]),
                          (("get", ROOT, 1), [("root",), ("get", 1)]),
                          (("make", (X, ONE)), [("load", 0), ("push", 1), ("make",)]),
                          (("call", "f", (ONE,)), [("push", 1), ("call", 0)]), (("not", X), [("load", 0), ("not",)]),
                          (("plus", ("minus", ONE, X), X), [("push", 1), ("load", 0), ("minus",), ("load", 0), ("plus",)])]:
            self.assertEqual(self.code_of(("do", part)), tuple(row) + (("drop",),))
            self.assertEqual(self.code_of(("give", part)), tuple(row) + (("give",),))
        for word in ("plus", "minus", "times", "below", "same"):
            self.assertEqual(self.code_of(("do", (word, ONE, X))), (("push", 1), ("load", 0), (word,), ("drop",)))

    def test_statements(self):
        self.assertEqual(self.code_of(), ())
        self.assertEqual(self.code_of(("let", "y", ONE), ("let", "x", ("var", "y"))),
                         (("push", 1), ("store", 1), ("load", 1), ("store", 0)))
        self.assertEqual(self.code_of(("set", ROOT, 1, X)), (("root",), ("load", 0), ("put", 1)))
        drop, give = ("do", ONE), ("give", X)
        self.assertEqual(self.code_of(("if", X, (drop,), (give,))), (
            ("load", 0), ("skip", 5), ("push", 1), ("drop",), ("jump", 7), ("load", 0), ("give",)))
        self.assertEqual(self.code_of(drop, ("if", X, (), ())), (
            ("push", 1), ("drop",), ("load", 0), ("skip", 5), ("jump", 5)))
        self.assertEqual(self.code_of(("while", X, (drop,))), (
            ("load", 0), ("skip", 5), ("push", 1), ("drop",), ("jump", 0)))
        self.assertEqual(self.code_of(drop, ("while", ("not", X), ())), (
            ("push", 1), ("drop",), ("load", 0), ("not",), ("skip", 6), ("jump", 2)))
        self.assertEqual(self.code_of(("while", X, (("if", ONE, (), (drop,)),))), (
            ("load", 0), ("skip", 8), ("push", 1), ("skip", 5), ("jump", 7), ("push", 1), ("drop",), ("jump", 0)))

    def test_places_of_variables(self):
        block = (("if", X, (("let", "d", ONE), ("while", X, (("let", "b", ONE),))), (("let", "c", ONE), ("let", "d", ONE))),
                 ("let", "a", ONE), ("let", "y", ONE))
        functions, row = compiled((("f", ("x", "y"), block),), 2)
        self.assertEqual(functions, (("f", 0, 2, 6),))
        self.assertEqual([told[1] for told in row if told[0] == "store"], [2, 3, 4, 2, 5, 1])

    def test_functions(self):
        program = (("f", (), ()), ("g", ("x",), (("give", ("call", "h", (X, ("call", "f", ())))),)), ("h", ("a", "b"), ()))
        self.assertEqual(compiled(program=program, wide=1), (
            (("f", 0, 0, 0), ("g", 2, 1, 1), ("h", 8, 2, 2)),
            HALT + (("load", 0), ("call", 0), ("call", 2), ("give",)) + HALT + HALT))

    def test_by_hand(self):
        functions, row = compiled(UP, 2)
        self.assertEqual(functions, (("up", 0, 1, 2),))
        self.assertEqual((len(row), row[4], row[11]), (23, ("skip", 12), ("jump", 17)))
        self.assertEqual(heights((functions, row), 2)[:6], (0, 1, 1, 0, 1, 0))

    def test_code_of_programs_is_right(self):
        for seed in range(300):
            wide = 1 + seed % 3
            program = drawn_program(random.Random(seed), wide)
            code = compiled(program, wide)
            self.assertIs(is_code(code, wide), True)
            self.assertEqual(heights(code, wide), plain_heights(code, wide))

    def test_faults_are_refused(self):
        refused = 0
        for seed in range(200):
            rng = random.Random(seed)
            program = changed(rng, Author(rng, 2).program())
            if plain_faults(program):
                refused += 1
                with self.assertRaises(BadProgram):
                    compiled(program, 2)
        self.assertGreater(refused, 20)
        for value in odd_values():
            with self.assertRaises(BadProgram):
                compiled(value, 2)

    def test_greatest_programs(self):
        program = (("f", (), (("if", ONE, (("do", ONE),), ()),) * 249 + (("give", ONE),) * 2),)
        code = compiled(program, 1)
        self.assertTrue(is_code(code, 1))
        many = tuple(("let", first + second, ONE) for first in "abcdefghijklmnopqrst" for second in "abcdefghijklmnopqrstuvwxy")
        functions, row = compiled((("f", (), many),), 1)
        self.assertEqual((functions, len(row)), ((("f", 0, 0, 500),), 1002))


if __name__ == "__main__":
    unittest.main()
