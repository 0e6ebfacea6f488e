"""The lines of README.md that show how to use the program."""

import pathlib
import unittest

from asifcopied.changes import heaps_of

README = pathlib.Path(__file__).parent.parent / "README.md"


class TestReadme(unittest.TestCase):
    def test_how_to_use_it(self):
        code = README.read_text().split("```python\n")[1].split("```")[0]
        told = {}
        exec(code, told)
        fat, cells = told["fat"], told["cells"]
        self.assertEqual(fat.heap(told["two"]), ((("to", 1), None), (2, None)))
        self.assertEqual(fat.read(told["other"], 1, 0), 1)
        self.assertEqual(heaps_of(fat.story(), 2), tuple(fat.heap(version) for version in range(4)))
        self.assertIsNone(cells.walk(1, [0, 0]))


if __name__ == "__main__":
    unittest.main()
