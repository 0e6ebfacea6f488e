"""Point [61]: running a program in a heap."""

import copy
import random
import unittest

from asifcopied.changes import after
from asifcopied.errors import BadGiven, BadHeap, BadMost, BadName, BadProgram, BadWide, Stopped
from asifcopied.heaps import look_alike
from asifcopied.meanings import run

from plain import drawn_story, not_numbers, odd_values, plain_heaps
from plain_programs import GREATEST, drawn_given, drawn_program, plain_run
from test_coding import ONE, ROOT, UP, X

HEAP = ((("to", 1), 5), (None, ("to", 0)))


def told_by(program, heap, wide, name, given, most):
    """What run does, in the form of plain_run."""
    try:
        value, deed, steps = run(program, heap, wide, name, given, most)
    except Stopped as error:
        return "stopped", error.word, error.steps
    return "gave", value, deed, steps


def main(*block, params=("x",)):
    return (("main", params, block),)


class TestRun(unittest.TestCase):
    def test_against_a_plain_reading(self):
        words = {}
        for seed in range(500):
            rng = random.Random(seed)
            wide = 1 + seed % 3
            program = drawn_program(rng, wide)
            heap = plain_heaps(drawn_story(seed, 4, wide, records=5), wide)[-1]
            name, given = drawn_given(rng, program, heap)
            told = plain_run(program, heap, wide, name, given, 400)
            self.assertEqual(told_by(program, heap, wide, name, given, 400), told, program)
            words[told[1] if told[0] == "stopped" else "gave"] = True
            if told[0] == "gave":
                after(heap, told[2], wide)
        self.assertEqual(set(words), {"gave", "steps", "kind", "great", "deep"})

    def test_each_number_of_steps(self):
        for seed in range(60):
            rng = random.Random(seed)
            wide = 1 + seed % 3
            program = drawn_program(rng, wide)
            heap = plain_heaps(drawn_story(seed, 3, wide, records=4), wide)[-1]
            name, given = drawn_given(rng, program, heap)
            full = told_by(program, heap, wide, name, given, 150)
            for most in range(full[-1] + 3):
                told = told_by(program, heap, wide, name, given, most)
                if most < full[-1] or full[1] == "steps" and most <= full[-1]:
                    self.assertEqual(told, ("stopped", "steps", most))
                elif full[1] != "steps":
                    # What cannot be done is a further step: with just so many steps as were done "steps" comes first.
                    word = "steps" if full[0] == "stopped" and most == full[-1] else None
                    self.assertEqual(told, ("stopped", word, most) if word else full)

    def test_by_hand(self):
        told = run(program=UP, heap=((None, None),), wide=2, name="up", given=[5], most=14)
        self.assertEqual(told, (5, [("make", (None, 5)), ("set", 0, 0, ("to", 1))], 14))
        heap = after(((None, None),), told[1], 2)
        self.assertEqual(run(UP, heap, 2, "up", (3,), 100), (8, [("set", 1, 1, 8)], 16))

    def test_steps(self):
        """The steps of each statement and expression, as they are counted by hand."""
        for block, steps in [((), 2), ((("do", ONE),), 4), ((("let", "y", ONE),), 4), ((("give", ONE),), 2),
                             ((("set", ROOT, 0, ONE),), 5), ((("do", ("plus", ONE, X)),), 6),
                             ((("do", ("make", (ONE, X))),), 6), ((("do", ("get", ROOT, 0)),), 5),
                             ((("if", ONE, (), ()),), 5), ((("if", ("is", 0), (), ()),), 4),
                             ((("if", ONE, (("give", X),), ()),), 4), ((("if", ("is", None), (), (("give", X),)),), 4),
                             ((("while", ("is", 0), (("do", ONE),)),), 4), ((("while", ONE, (("give", X),)),), 4),
                             ((("while", X, (("let", "x", ("minus", X, ONE)),)),), 2 * 7 + 2 + 2)]:
            self.assertEqual(run(main(*block), HEAP, 2, "main", [2], 100)[2], steps, block)
        program = (("f", (), (("give", ("call", "g", (ONE,))),)), ("g", ("x",), ()))
        self.assertEqual(run(program, HEAP, 2, "f", [], 10), (None, [], 1 + 1 + 2 + 1))

    def test_stops(self):
        program = main(("give", ("times", X, ("is", 10 ** 9))))
        self.assertEqual(run(program, HEAP, 2, "main", [10 ** 9 - 1], 9)[0], (10 ** 9 - 1) * 10 ** 9)
        self.assertEqual(run(program, HEAP, 2, "main", [1 - 10 ** 9], 9)[0], -(10 ** 9 - 1) * 10 ** 9)
        for x in (10 ** 9, -(10 ** 9), GREATEST):
            self.assertEqual(told_by(program, HEAP, 2, "main", [x], 9), ("stopped", "great", 2))
        for word, x, other, told in [("plus", GREATEST, 0, GREATEST), ("plus", GREATEST, 1, None), ("plus", -GREATEST, -1, None),
                                     ("minus", -GREATEST, 0, -GREATEST), ("minus", -GREATEST, 1, None),
                                     ("minus", 0, GREATEST, -GREATEST), ("minus", GREATEST, -1, None),
                                     ("times", -GREATEST, 1, -GREATEST), ("times", GREATEST, -2, None)]:
            end = told_by(main(("give", (word, X, ("is", other)))), HEAP, 2, "main", [x], 9)
            self.assertEqual(end, ("stopped", "great", 2) if told is None else ("gave", told, [], 4))
        for bad in [("get", X, 0), ("plus", X, ONE), ("plus", ONE, X), ("minus", X, ONE), ("times", ONE, X), ("below", X, ONE),
                    ("below", ONE, X)]:
            for x in [None, ("to", 1)] if bad[0] != "get" else [None, 0, 7]:
                steps = 1 if bad[0] == "get" else 2
                self.assertEqual(told_by(main(("do", bad)), HEAP, 2, "main", [x], 9), ("stopped", "kind", steps))
        for x in [None, 0, 1]:
            told = told_by(main(("set", X, 0, ("make", (ONE, ONE)))), HEAP, 2, "main", [x], 9)
            self.assertEqual(told, ("stopped", "kind", 4))
        self.assertEqual(told_by(main(("set", X, 0, ("get", X, 0))), HEAP, 2, "main", [3], 9), ("stopped", "kind", 2))

    def test_what_kind_is_asked_ahead_of_how_great(self):
        program = main(("do", ("times", ("is", GREATEST), X)))
        self.assertEqual(told_by(program, HEAP, 2, "main", [None], 9), ("stopped", "kind", 2))

    def test_values(self):
        for word, one, other, told in [("below", 1, 2, 1), ("below", 2, 2, 0), ("below", -1, 0, 1), ("same", 2, 2, 1),
                                       ("same", None, 0, 0), ("same", ("to", 1), ("to", 1), 1), ("same", ("to", 0), ("to", 1), 0),
                                       ("same", None, None, 1), ("plus", 2, -5, -3), ("minus", 2, 5, -3), ("times", -2, 5, -10)]:
            program = main(("give", (word, X, ("var", "y"))), params=("x", "y"))
            self.assertEqual(run(program, HEAP, 2, "main", [one, other], 9), (told, [], 4))
        for x, told in [(None, 1), (0, 1), (1, 0), (-1, 0), (("to", 0), 0)]:
            self.assertEqual(run(main(("give", ("not", X))), HEAP, 2, "main", [x], 9)[0], told)
            self.assertEqual(run(main(("if", X, (("give", ONE),), ())), HEAP, 2, "main", [x], 9)[0], None if told else 1)

    def test_forty_calls(self):
        program = (("down", ("x",), (("if", X, (("give", ("call", "down", (("minus", X, ONE),))),), ()), ("give", ("is", 7)))),)
        self.assertEqual(run(program, HEAP, 2, "down", [39], 10 ** 4)[0], 7)
        # Six steps for each of forty calls, but for the last one's call and give.
        self.assertEqual(told_by(program, HEAP, 2, "down", [40], 10 ** 4), ("stopped", "deep", 39 * 6 + 5))
        self.assertEqual(told_by(program, HEAP, 2, "down", [40], 39 * 6 + 5), ("stopped", "steps", 39 * 6 + 5))
        program = (("f", (), (("do", ("call", "g", ())),) * 50), ("g", (), ()))
        self.assertEqual(run(program, HEAP, 2, "f", [], 10 ** 4)[0], None)

    def test_reads_what_it_wrote(self):
        program = main(("set", ROOT, 1, ("make", (X, ROOT))), ("set", ("get", ROOT, 1), 1, ONE),
                       ("set", ROOT, 0, ("plus", ("get", ("get", ROOT, 1), 0), ("get", ("get", ROOT, 1), 1))),
                       ("give", ("get", ROOT, 0)))
        self.assertEqual(run(program, HEAP, 2, "main", [4], 99)[:2], (
            5, [("make", (4, ("to", 0))), ("set", 0, 1, ("to", 2)), ("set", 2, 1, 1), ("set", 0, 0, 5)]))
        # Each set and make stands in the deed, also those that change nothing.
        program = main(("set", ROOT, 1, ("is", 5)), ("set", ROOT, 1, ("is", 5)))
        self.assertEqual(run(program, HEAP, 2, "main", [4], 99)[1], [("set", 0, 1, 5)] * 2)

    def test_nothing_that_is_passed_is_changed(self):
        given = [("to", 1)]
        kept = copy.deepcopy((HEAP, given, UP))
        deed = run(main(("set", X, 0, ONE)), HEAP, 2, "main", given, 99)[1]
        deed.append(None)
        self.assertEqual((HEAP, given, UP), kept)
        self.assertEqual(run(main(("set", X, 0, ONE)), HEAP, 2, "main", tuple(given), 99)[1], [("set", 1, 0, 1)])

    def test_alike(self):
        """Two heaps that look alike: programs see no numbers of records."""
        met = 0
        for seed in range(150):
            rng = random.Random(seed)
            wide = 1 + seed % 3
            heap = plain_heaps(drawn_story(seed, 5, wide, records=6), wide)[-1]
            numbers = list(range(1, len(heap) + 2))
            rng.shuffle(numbers)
            numbers = [0] + numbers[:len(heap) - 1]
            other = [(None,) * wide] * (len(heap) + 2)
            for record, row in enumerate(heap):
                other[numbers[record]] = tuple(("to", numbers[held[1]]) if isinstance(held, tuple) else held for held in row)
            other = tuple(other)
            self.assertTrue(look_alike(heap, other, wide))
            program = drawn_program(rng, wide)
            name, params, _ = rng.choice(program)
            given = [rng.choice([None, 1, 3]) for _ in params]
            here, there = told_by(program, heap, wide, name, given, 300), told_by(program, other, wide, name, given, 300)
            self.assertEqual((here[0], here[-1]), (there[0], there[-1]))
            if here[0] == "stopped":
                self.assertEqual(here, there)
                continue
            met += 1
            value, same = here[1], there[1]
            self.assertEqual(isinstance(value, tuple), isinstance(same, tuple))
            if not isinstance(value, tuple):
                self.assertEqual(value, same)
            self.assertTrue(look_alike(after(heap, here[2], wide), after(other, there[2], wide), wide))
            self.assertTrue(look_alike(after(heap, here[2] + [("set", 0, 0, value)], wide),
                                       after(other, there[2] + [("set", 0, 0, same)], wide), wide))
        self.assertGreater(met, 50)

    def test_errors_in_their_sequence(self):
        for bad in not_numbers(1, 6):
            with self.assertRaises(BadWide):
                run(None, None, bad, None, None, None)
        faulty = [main(("do", ("var", "y"))), main(("do", ("call", "no", ()))), main(("do", ("call", "main", ())))]
        for bad in odd_values() + faulty + [main(("do", ("get", ROOT, 2)))]:
            with self.assertRaises(BadProgram):
                run(bad, None, 2, None, None, None)
        for bad in [None, (), ((None,),), [(None, None)], ((None, ("to", 1)),), ((None, True),)]:
            with self.assertRaises(BadHeap):
                run(UP, bad, 2, None, None, None)
        for bad in odd_values() + ["UP", "u", "upp", ["up"], ("up",)]:
            with self.assertRaises(BadName):
                run(UP, HEAP, 2, bad, None, None)
        for bad in [None, [], [1, 2], 5, "x", {0: 1}, {}, [True], ["1"], [("to", 2)], [("to", -1)], [("to", True)], [["to", 0]],
                    [10 ** 18], [()], [("in", 0)], (1, 2)]:
            with self.assertRaises(BadGiven):
                run(UP, HEAP, 2, "up", bad, None)
        for bad in not_numbers(0):
            with self.assertRaises(BadMost):
                run(UP, HEAP, 2, "up", [1], bad)


if __name__ == "__main__":
    unittest.main()
