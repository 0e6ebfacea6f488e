"""Points [3] and [5]: the errors and their attributes."""

import ast
import importlib
import pathlib
import unittest

import asifcopied.errors as errors
from asifcopied.cells import Cells

PLAIN = """BadBits BadCell BadCode BadContent BadCopied BadCounts BadCourse BadDeep BadDepth BadDisk BadEntries
BadExtra BadField BadGiven BadHeap BadItem BadItems BadLabels BadLanded BadLater BadLeast BadLeft BadLevel BadLine
BadMany BadMarks BadMost BadMoves BadName BadParents BadPlace BadPlan BadPrice BadProgram BadRecord BadRoom
BadRounds BadRows BadRule BadShape BadStanding BadState BadStory BadTable BadUsed BadValue BadValues BadVersion
BadWay BadWide Fell LastName NoEntry NotCopied NotForest NotOver TooMany""".split()
WITH = {"BadDeed": ["at"], "BadEvents": ["at"], "BadPuts": ["at"], "BadText": ["line"], "Full": ["many"],
        "NoRecord": ["record"], "NoWay": ["at"], "NotNewest": ["newest"], "Stopped": ["word", "steps"],
        "TooPointed": ["record"], "Unknown": ["name"]}


class TestErrors(unittest.TestCase):
    def test_all_stand_directly_below(self):
        self.assertEqual(errors.CopyError.__bases__, (ValueError,))
        for name in PLAIN + list(WITH):
            self.assertEqual(getattr(errors, name).__bases__, (errors.CopyError,), name)

    def test_there_are_no_others(self):
        package = pathlib.Path(errors.__file__).parent
        for path in package.glob("*.py"):
            module = importlib.import_module("asifcopied." + path.stem)
            for node in ast.parse(path.read_text()).body:
                if not isinstance(node, ast.ClassDef):
                    continue
                told = getattr(module, node.name)
                if issubclass(told, BaseException):
                    self.assertEqual(path.stem, "errors")
                    self.assertIn(node.name, PLAIN + list(WITH) + ["CopyError"])
                else:
                    self.assertIn(told.__bases__, [(object,), (Cells,)])

    def test_texts(self):
        for name in PLAIN:
            error = getattr(errors, name)
            for text in ["", "any text", "100% of it"]:
                self.assertIsInstance(error(text), errors.CopyError)
            self.assertIsInstance(error(), ValueError)
            with self.assertRaises(errors.CopyError):
                raise error("told")

    def test_attributes(self):
        worths = [None, 0, 7, "word", True, (1, 2)]
        for name, attributes in WITH.items():
            error = getattr(errors, name)
            for at in range(len(worths)):
                told = [worths[(at + k) % len(worths)] for k in range(len(attributes))]
                by_place = error(*told)
                by_name = error(**dict(zip(attributes, told)))
                for attribute, worth in zip(attributes, told):
                    self.assertIs(getattr(by_place, attribute), worth)
                    self.assertIs(getattr(by_name, attribute), worth)
            with self.assertRaises(errors.CopyError):
                raise by_place


if __name__ == "__main__":
    unittest.main()
