"""What the keepers share: the tree of versions as it grows, and its line."""

import random
import unittest

from asifcopied.growth import GAP, Growth, Line

from plain import plain_line, way_up


class TestGrowth(unittest.TestCase):
    def test_makers(self):
        for seed in range(20):
            rng = random.Random(seed)
            growth, names = Growth(), [[(0, 0)]]
            for fresh in range(1, 40):
                parent = rng.randrange(fresh)
                made = rng.choice([0, 0, 0, 1, 2])
                many = len(names[parent])
                self.assertEqual(growth.grow(parent, many + made), fresh)
                names.append(names[parent] + [(fresh, many + which) for which in range(made)])
            for version, told in enumerate(names):
                self.assertEqual(growth.made(version), told)
                self.assertEqual([growth.maker(version, record) for record in range(len(told))], [one for one, _ in told])
                self.assertEqual(growth.first(version), len(names[growth.elders[version]]) if version else 0)
                self.assertEqual(way_up(growth.elders, version)[-1], 0)


class TestLine(unittest.TestCase):
    def check(self, line, parents):
        row = line.row()
        self.assertEqual(row, plain_line(tuple(parents)))
        labels = [line.labels[version] for version in row]
        self.assertTrue(all(one < other for one, other in zip(labels, labels[1:])))
        self.assertEqual([line.nexts[version] for version in row], row[1:] + [None])

    def test_labels_rise(self):
        for seed in range(10):
            rng = random.Random(seed)
            line, parents = Line(), [None]
            for fresh in range(1, 60):
                parents.append(rng.randrange(fresh))
                line.put(parents[-1])
                self.check(line, parents)

    def test_one_place(self):
        """The gap between two versions is used up, wherever it is, and labels are laid anew."""
        for place in (0, 1, 2):
            line, parents = Line(), [None]
            for parent in [0, 1, 2] + [place] * (GAP.bit_length() * 2 + 20):
                behind = line.nexts[parent]
                parents.append(parent)
                line.put(parent)
                fresh = len(parents) - 1
                self.assertLess(line.labels[parent], line.labels[fresh])
                if behind is not None:
                    self.assertLess(line.labels[fresh], line.labels[behind])
            self.check(line, parents)
            self.assertGreater(line.labels[3], 3 * GAP)


if __name__ == "__main__":
    unittest.main()
