"""The lines of README.md that show how to use the program."""

import pathlib
import unittest

from asifcopied.changes import heaps_of

README = pathlib.Path(__file__).parent.parent / "README.md"


class TestReadme(unittest.TestCase):
    def test_how_to_use_it(self):
        pieces = [piece.split("```")[0] for piece in README.read_text().split("```python\n")[1:]]
        told = {}
        exec(pieces[0], told)
        fat, cells = told["fat"], told["cells"]
        self.assertEqual(fat.heap(told["two"]), ((("to", 1), None), (2, None)))
        self.assertEqual(fat.read(told["other"], 1, 0), 1)
        self.assertEqual(heaps_of(fat.story(), 2), tuple(fat.heap(version) for version in range(4)))
        self.assertIsNone(cells.walk(1, [0, 0]))
        exec(pieces[1], told)
        self.assertEqual(told["run"](told["queue"], ((None, None),), 2, "put", [7], 100),
                         (None, [("make", (7, None)), ("set", 0, 1, ("to", 1))], 8))
        self.assertEqual((told["one"], told["take"].outcome()[1]), (1, 7))
        exec(pieces[2], told)
        self.assertEqual(told["copier"].heap(1), ((("to", 1), None), (1, None)))
        self.assertEqual(told["duel_price"](told["ring_shape"](2), 2), (4, 5))
        exec(pieces[3], told)
        self.assertEqual(told["kept"].kept_rows(), (((0, 0), 0, ((1, 5),)),))
        self.assertEqual((told["again"].names(), told["again"].total()), ({"main": 2, "then": 1}, 3))
        self.assertEqual(told["times_of"](fat.story(), 2, (0, 0), 1), [(1, 1)])
        self.assertEqual((told["desk"].say("at"), told["desk"].say("when 0.0 1")), ("version 2", "1-1"))

    def test_all_modules_are_told_of(self):
        text = README.read_text()
        for path in (README.parent / "asifcopied").glob("*.py"):
            if path.stem != "__init__":
                self.assertIn("| `" + path.stem + "` |", text)


if __name__ == "__main__":
    unittest.main()
