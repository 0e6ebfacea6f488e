"""Point [65]: folding."""

import random
import unittest

from asifcopied.errors import BadProgram, BadWide
from asifcopied.folding import folded
from asifcopied.programs import faults, is_program

from plain import drawn_story, not_numbers, odd_values, plain_heaps
from plain_programs import GREATEST, can_fold, drawn_given, drawn_program
from test_coding import ONE, ROOT, UP, X
from test_meanings import told_by


def constant(value):
    return ("is", value)


class TestFolded(unittest.TestCase):
    def block(self, *block):
        """What stands in the place of a block."""
        program = (("f", ("x",), block),)
        told = folded(program, 2)
        self.assertEqual([function[:2] for function in told], [("f", ("x",))])
        self.assertEqual(faults(told, 2), [])
        self.assertFalse(can_fold(told))
        return told[0][2]

    def part(self, part):
        (statement,) = self.block(("give", part))
        return statement[1]

    def test_expressions(self):
        for part, told in [(("plus", ONE, constant(2)), 3), (("minus", ONE, constant(2)), -1), (("times", constant(3), constant(-2)), -6),
                           (("below", ONE, constant(2)), 1), (("below", ONE, ONE), 0), (("same", ONE, ONE), 1),
                           (("same", constant(None), constant(0)), 0), (("same", constant(None), constant(None)), 1),
                           (("not", constant(None)), 1), (("not", constant(0)), 1), (("not", ONE), 0), (("not", constant(-1)), 0),
                           (("plus", constant(GREATEST), constant(0)), GREATEST),
                           (("minus", constant(-GREATEST), constant(0)), -GREATEST),
                           (("not", ("same", ("plus", ONE, ONE), constant(2))), 0)]:
            self.assertEqual(self.part(part), constant(told))

    def test_what_stays(self):
        for part in [("plus", ONE, X), ("plus", X, ONE), ("plus", constant(None), ONE), ("times", ONE, constant(None)),
                     ("below", constant(None), ONE), ("plus", constant(GREATEST), ONE), ("minus", constant(-GREATEST), ONE),
                     ("times", constant(10 ** 9), constant(10 ** 9)), ("not", X), ("same", X, X), ROOT, X, ONE,
                     ("get", ROOT, 1), ("make", (ONE, X)), ("call", "f", (ONE,)), ("below", ROOT, ONE), ("same", ROOT, ONE)]:
            self.assertEqual(self.part(part), part)
            if part[0] not in ("is", "var", "root"):
                self.assertEqual(self.block(("do", part)), (("do", part),))
        self.assertEqual(self.part(("make", (("plus", ONE, ONE), ("get", ("call", "f", (("not", ONE),)), 0)))),
                         ("make", (constant(2), ("get", ("call", "f", (constant(0),)), 0))))

    def test_statements(self):
        give, let = ("give", X), ("let", "y", ONE)
        self.assertEqual(self.block(("do", ONE), ("do", X), ("do", ROOT), ("do", ("plus", ONE, ONE))), ())
        self.assertEqual(self.block(("if", ONE, (let,), (give,)), give), (let, give))
        self.assertEqual(self.block(("if", constant(0), (let,), (give, let)), let), (give,))
        self.assertEqual(self.block(("if", ("not", ("not", constant(None))), (let,), ())), ())
        self.assertEqual(self.block(("while", constant(None), (let,)), give), (give,))
        self.assertEqual(self.block(("while", ("minus", ONE, ONE), (let,))), ())
        loop = ("while", constant(3), (let,))
        self.assertEqual(self.block(loop, give), (loop, give))
        self.assertEqual(self.block(("while", ("plus", ONE, ONE), (("do", ONE), give, let))), (("while", constant(2), (give,)),))
        self.assertEqual(self.block(give, let, give), (give,))
        ended = ("if", X, (let, give), (give,))
        self.assertEqual(self.block(("if", X, (let, give, let), (give, let)), let), (ended,))
        self.assertEqual(self.block(("if", X, (give,), (let,)), let), (("if", X, (give,), (let,)), let))
        self.assertEqual(self.block(("if", X, (ended, let), (("if", ONE, (give,), ()), let)), let),
                         (("if", X, (ended,), (give,)),))
        self.assertEqual(self.block(("set", ("get", ROOT, 0), 1, ("not", ONE))), (("set", ("get", ROOT, 0), 1, constant(0)),))
        # A while is no end of its block, also if its own block has one.
        self.assertEqual(self.block(("while", X, (give,)), let), (("while", X, (give,)), let))

    def test_by_hand(self):
        self.assertEqual(folded(program=UP, wide=2), UP)

    def test_drawn(self):
        changed, words = 0, {}
        for seed in range(600):
            rng = random.Random(seed)
            wide = 1 + seed % 3
            program = drawn_program(rng, wide)
            told = folded(program, wide)
            self.assertTrue(is_program(told, wide))
            self.assertEqual(faults(told, wide), [])
            self.assertFalse(can_fold(told), told)
            self.assertEqual([function[:2] for function in told], [function[:2] for function in program])
            if not can_fold(program):
                self.assertEqual(folded(told, wide), told)
            changed += told != program
            for _ in range(3):
                heap = plain_heaps(drawn_story(rng.random(), 4, wide, records=5), wide)[-1]
                name, given = drawn_given(rng, program, heap)
                most = rng.choice([10, 40, 400])
                ahead, behind = (told_by(one, heap, wide, name, given, most) for one in (program, told))
                words[ahead[1] if ahead[0] == "stopped" else "gave"] = True
                self.check(ahead, behind)
        self.assertGreater(changed, 200)
        self.assertEqual(set(words), {"gave", "steps", "kind", "great", "deep"})

    def check(self, ahead, behind):
        self.assertLessEqual(behind[-1], ahead[-1] if ahead[1] != "steps" else behind[-1])
        if ahead[0] == "gave" or ahead[1] != "steps":
            self.assertEqual(behind[:-1], ahead[:-1])

    def test_errors(self):
        for bad in not_numbers(1, 6):
            with self.assertRaises(BadWide):
                folded(None, bad)
        for bad in odd_values() + [(("f", (), (("do", X),)),), (("f", (), (("do", ("call", "g", ())),)),)]:
            with self.assertRaises(BadProgram):
                folded(bad, 2)


if __name__ == "__main__":
    unittest.main()
