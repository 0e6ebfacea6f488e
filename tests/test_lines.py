"""Point [20]: the line of versions."""

import itertools
import random
import unittest

from asifcopied.changes import are_parents
from asifcopied.errors import BadLine, BadParents, BadVersion
from asifcopied.lines import comes_of, is_ahead, is_line, line_of, meet, next_in_line, place, stretch, tree_of

from plain import comes_of as plainly_comes_of
from plain import drawn_tree, not_numbers, odd_values, plain_line, small_trees, way_up

ONES = [place, next_in_line, stretch]
TWOS = [is_ahead, comes_of, meet]


class TestLines(unittest.TestCase):
    def check_tree(self, parents, pairs):
        line = plain_line(parents)
        self.assertEqual(line_of(parents), tuple(line))
        for version in range(len(parents)):
            at = line.index(version)
            self.assertEqual(place(parents, version), at)
            self.assertEqual(next_in_line(parents, version), (line + [None])[at + 1])
            those = [at for at, other in enumerate(line) if plainly_comes_of(parents, other, version)]
            self.assertEqual(stretch(parents, version), (those[0], those[-1]))
            self.assertEqual(those, list(range(at, at + len(those))))
        for one, other in pairs:
            self.assertIs(is_ahead(parents, one, other), line.index(one) < line.index(other))
            self.assertIs(comes_of(parents, one, other), plainly_comes_of(parents, one, other))
            common = [v for v in way_up(parents, one) if v in way_up(parents, other)]
            self.assertEqual(meet(parents, one, other), max(common))
        self.assertIs(is_line(tuple(line)), True)
        self.assertEqual(tree_of(tuple(line)), parents)

    def test_all_small_trees(self):
        for parents in small_trees():
            self.check_tree(parents, itertools.product(range(len(parents)), repeat=2))

    def test_greater_trees(self):
        rng = random.Random(5)
        for many in [9, 14, 25, 40]:
            for _ in range(6):
                self.check_tree(drawn_tree(rng, many), itertools.product(range(many), repeat=2))

    def test_by_hand(self):
        parents = (None, 0, 1, 0, 1)
        self.assertEqual(line_of(parents), (0, 3, 1, 4, 2))
        self.assertEqual(stretch(parents, 1), (2, 4))
        self.assertEqual(meet(parents, 3, 4), 0)
        self.assertEqual(meet(parents, 4, 2), 1)

    def test_facts(self):
        for parents in small_trees():
            line = line_of(parents)
            elder = line_of(parents[:-1]) if len(parents) > 1 else (0,)
            self.assertEqual(tuple(version for version in line if version < max(1, len(parents) - 1)), elder)
            for one, other in itertools.combinations(range(len(parents)), 2):
                first, last = sorted([line.index(one), line.index(other)])
                least = min(line[first:last + 1])
                self.assertIs(comes_of(parents, other, one), least == one == line[first])
                if least not in (one, other):
                    self.assertEqual(meet(parents, one, other), parents[least])
                if parents[one] == parents[other]:
                    self.assertTrue(is_ahead(parents, other, one))

    def test_each_line_is_of_one_tree(self):
        trees = {}
        for parents in small_trees():
            self.assertNotIn(line_of(parents), trees)
            trees[line_of(parents)] = parents
        for many in range(1, 7):
            for row in itertools.permutations(range(1, many)):
                line = (0,) + row
                self.assertIs(is_line(line), True)
                self.assertEqual(tree_of(line), trees[line])
                self.assertEqual(line_of(tree_of(line)), line)

    def test_is_line_of_any_value(self):
        for good in [(0,), (0, 1), (0, 2, 1), tuple(range(30))]:
            self.assertIs(is_line(value=good), True)
            self.assertTrue(are_parents(tree_of(line=good)))
        bad = [(), [0], [0, 1], (1, 0), (0, 0), (0, 1, 1), (0, 2), (0, 1, 3), (0, True), (False, 1), (False,), (0, -1),
               (0, "1"), (0, None), (0, (1,)), (0, 10 ** 18), None, 0, "0", {0: 0}, (1,), (1, 2), (0, [1])]
        for value in bad:
            self.assertIs(is_line(value), False, value)
            with self.assertRaises(BadLine):
                tree_of(value)
        for value in odd_values():
            self.assertIs(is_line(value), value == (0,) and value[0] is not False, value)

    def test_bad_parents(self):
        for bad in odd_values() + [(None, 1), (None, False), [None], (None, 0, 2)]:
            if bad == (None,):
                continue
            with self.assertRaises(BadParents):
                line_of(bad)
            for call in ONES:
                with self.assertRaises(BadParents):
                    call(bad, None)
            for call in TWOS:
                with self.assertRaises(BadParents):
                    call(bad, None, None)

    def test_bad_version(self):
        parents = (None, 0, 1)
        for bad in not_numbers(0, 2):
            for call in ONES:
                with self.assertRaises(BadVersion):
                    call(parents, bad)
            for call in TWOS:
                with self.assertRaises(BadVersion):
                    call(parents, bad, 0)
                with self.assertRaises(BadVersion):
                    call(parents, 0, bad)

    def test_by_name(self):
        parents = (None, 0, 0)
        self.assertEqual(line_of(parents=parents), (0, 2, 1))
        self.assertEqual(place(parents=parents, version=1), 2)
        self.assertIs(is_ahead(parents=parents, one=2, other=1), True)
        self.assertIs(is_ahead(parents=parents, one=2, other=2), False)
        self.assertEqual(next_in_line(parents=parents, version=0), 2)
        self.assertIs(comes_of(parents=parents, one=2, other=0), True)
        self.assertEqual(stretch(parents=parents, version=2), (1, 1))
        self.assertEqual(meet(parents=parents, one=2, other=1), 0)

    def test_a_row_of_two_thousand(self):
        row = (None,) + tuple(range(1999))
        self.assertEqual(line_of(row), tuple(range(2000)))
        self.assertEqual(tree_of(tuple(range(2000))), row)
        self.assertEqual(stretch(row, 7), (7, 1999))
        self.assertEqual(meet(row, 1999, 1000), 1000)
        self.assertTrue(comes_of(row, 1999, 0))
        self.assertIsNone(next_in_line(row, 1999))
        star = (None,) + (0,) * 1999
        self.assertEqual(line_of(star), (0,) + tuple(range(1999, 0, -1)))
        self.assertEqual(tree_of(line_of(star)), star)


if __name__ == "__main__":
    unittest.main()
