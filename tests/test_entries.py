"""Point [21]: entries along the line."""

import copy
import itertools
import random
import unittest

from asifcopied.errors import BadEntries, BadParents, BadValues, BadVersion, NoEntry
from asifcopied.fats import is_right, least_entries, read_entries

from plain import GREATEST, comes_of, drawn_tree, not_numbers, odd_values, plain_line, small_trees

PARENTS = (None, 0, 1, 0, 1)
LINE = (0, 3, 1, 4, 2)


def plain_read(line, entries, version):
    """What entries tell, as a pair that begins with whether they tell anything."""
    told = (False, None)
    for here in line[:line.index(version) + 1]:
        for other, value in entries:
            if other == here:
                told = (True, value)
    return told


def plain_least(parents, made, values):
    line = [version for version in plain_line(parents) if comes_of(parents, version, made)]
    return tuple((version, values[version]) for at, version in enumerate(line)
                 if at == 0 or values[version] != values[line[at - 1]])


class TestRead(unittest.TestCase):
    def test_nearest(self):
        entries = ((3, 5), (1, None), (2, ("to", 8)))
        self.assertEqual([read_entries(PARENTS, entries, version) for version in (3, 1, 4, 2)],
                         [5, None, None, ("to", 8)])
        self.assertEqual(read_entries(parents=PARENTS, entries=((4, 1),), version=2), 1)
        for version in (0,):
            with self.assertRaises(NoEntry):
                read_entries(PARENTS, entries, version)
        for version in range(5):
            with self.assertRaises(NoEntry):
                read_entries(PARENTS, (), version)

    def test_drawn(self):
        rng = random.Random(2)
        for _ in range(150):
            parents = drawn_tree(rng, rng.randrange(1, 12))
            line = plain_line(parents)
            entries = tuple((version, rng.choice([None, 1, 2, ("to", 3)])) for version in line if rng.random() < 0.4)
            for version in range(len(parents)):
                found, value = plain_read(line, entries, version)
                if found:
                    self.assertEqual(read_entries(parents, entries, version), value)
                else:
                    with self.assertRaises(NoEntry):
                        read_entries(parents, entries, version)

    def test_bad_entries(self):
        bad = [None, [], [(0, 1)], ((1, 1), (3, 1)), ((0, 1), (0, 1)), ((3, 1), (0, 1)), ((2, 1), (4, 1)), ((5, 1),),
               ((-1, 1),), ((True, 1),), ((False, 1),), ((0, True),), ((0, False),), ((0, GREATEST + 1),), ((0, "1"),),
               ((0, ("to", -1)),), ((0, ("to", True)),), ((0, ["to", 1]),), ((0, ("in", 1)),), ((0, ()),), ((0,),),
               ((0, 1, 1),), ([0, 1],), (0, 1), ((None, 1),), (("0", 1),), {0: 1}, "", ((0, 1), None), ((0, ("to",)),)]
        for entries in bad:
            for version in [0, None]:
                with self.assertRaises(BadEntries):
                    read_entries(PARENTS, entries, version)

    def test_sequence_of_errors(self):
        for bad in odd_values():
            if bad != (None,):
                with self.assertRaises(BadParents):
                    read_entries(bad, None, None)
        for bad in not_numbers(0, 4):
            with self.assertRaises(BadVersion):
                read_entries(PARENTS, (), bad)
        self.assertEqual(read_entries(PARENTS, ((0, -GREATEST),), 4), -GREATEST)
        self.assertEqual(read_entries(PARENTS, ((0, ("to", GREATEST)),), 4), ("to", GREATEST))


class TestRight(unittest.TestCase):
    values = {1: None, 2: 7, 4: None}

    def right(self, entries):
        return is_right(PARENTS, 1, self.values, entries)

    def test_by_hand(self):
        self.assertEqual(least_entries(PARENTS, 1, self.values), ((1, None), (2, 7)))
        self.assertEqual(least_entries(PARENTS, 1, {1: None, 2: None, 4: 7}), ((1, None), (4, 7), (2, None)))
        self.assertIs(self.right(((1, None), (2, 7))), True)
        self.assertIs(self.right(((1, None), (4, None), (2, 7))), True)

    def test_wrong(self):
        for entries in [((2, 7), (1, None)), ((1, None), (2, 7), (4, None)), ((1, None),), ((2, 7),), (), ((1, None), (2, 6)),
                        ((1, None), (4, 7), (2, 7)), ((1, 7), (2, 7)), ((0, None), (2, 7)), ((0, None), (1, None), (2, 7)),
                        ((3, None), (1, None), (2, 7)), ((1, None), (1, None), (2, 7)), [(1, None), (2, 7)],
                        ([1, None], (2, 7)), ((True, None), (2, 7)), ((1, None), (2, ("to", 7))), ((1, None), (2, "7")),
                        ((1, None), (2, 7), (5, 7)), ((1, False), (2, 7)), None, "", {1: None, 2: 7}, 0, ((4, None), (2, 7))]:
            self.assertIs(self.right(entries), False, entries)
        for value in odd_values():
            self.assertIs(self.right(value), False, value)

    def test_true_is_not_one(self):
        self.assertIs(is_right((None,), 0, {0: 1}, ((0, 1),)), True)
        self.assertIs(is_right((None,), 0, {0: 1}, ((0, True),)), False)
        self.assertIs(is_right((None,), 0, {0: 0}, ((0, False),)), False)
        self.assertIs(is_right((None,), 0, {0: 0}, ((False, 0),)), False)
        self.assertIs(is_right((None, 0), 1, {1: 0}, ((True, 0),)), False)

    def test_bad_values(self):
        bad = [None, [], {}, {1: None, 2: 7}, {1: None, 2: 7, 4: None, 3: None}, {True: None, 2: 7, 4: None},
               {1: None, 2: True, 4: None}, {1: None, 2: False, 4: None}, {1: "", 2: 7, 4: None}, {1: [], 2: 7, 4: None},
               {1: None, 2: GREATEST + 1, 4: None}, {1: None, 2: ("to", -1), 4: None}, {1: None, 2: ["to", 1], 4: None},
               {1: None, 2: 7, "4": None}, {1: None, 2: 7, None: None}, {1: None, 2: 7, 4: None, (1,): 3}, {1: None, 2: 7, 3: 1},
               {1: None, 2: 7, 4: None, 10 ** 18: 1}, ((1, None), (2, 7), (4, None)), {1: None, 2: 7, 4: {}}]
        for values in bad:
            with self.assertRaises(BadValues):
                least_entries(PARENTS, 1, values)
            with self.assertRaises(BadValues):
                is_right(PARENTS, 1, values, None)
        with self.assertRaises(BadValues):
            least_entries((None,), 0, {False: 1})
        with self.assertRaises(BadValues):
            is_right((None,), 0, {False: 1}, ((0, 1),))

    def test_sequence_of_errors(self):
        for bad in odd_values():
            if bad != (None,):
                for call in [lambda: least_entries(bad, None, None), lambda: is_right(bad, None, None, None)]:
                    with self.assertRaises(BadParents):
                        call()
        for bad in not_numbers(0, 4):
            for call in [lambda: least_entries(PARENTS, bad, None), lambda: is_right(PARENTS, bad, None, None)]:
                with self.assertRaises(BadVersion):
                    call()

    def test_keys_in_any_sequence(self):
        for row in itertools.permutations(self.values):
            values = {version: self.values[version] for version in row}
            kept = copy.deepcopy(values)
            self.assertEqual(least_entries(parents=PARENTS, made=1, values=values), ((1, None), (2, 7)))
            self.assertTrue(is_right(parents=PARENTS, made=1, values=values, entries=((1, None), (2, 7))))
            self.assertEqual(list(values), list(kept))

    def test_heart(self):
        """Entries are right exactly if the least ones are among them and each tells what is due."""
        rng = random.Random(4)
        for parents in small_trees():
            if len(parents) > 5:
                continue
            line = plain_line(parents)
            for made in range(len(parents)):
                those = [version for version in line if comes_of(parents, version, made)]
                values = {version: rng.choice([None, 1, ("to", 1)]) for version in those}
                least = least_entries(parents, made, values)
                self.assertEqual(least, plain_least(parents, made, values))
                self.assertTrue(is_right(parents, made, values, least))
                for at in range(len(least)):
                    self.assertFalse(is_right(parents, made, values, least[:at] + least[at + 1:]))
                for worths in itertools.product([0, None, 1, ("to", 1)], repeat=len(those)):
                    entries = tuple((version, worth) for version, worth in zip(those, worths) if worth != 0)
                    due = all(value == values[version] for version, value in entries)
                    plain = due and all(entry in entries for entry in least)
                    self.assertIs(is_right(parents, made, values, entries), plain)


if __name__ == "__main__":
    unittest.main()
