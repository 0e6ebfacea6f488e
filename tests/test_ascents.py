"""Points [90] and [91]: ways up, jumps, and who made a record."""

import random
import unittest

from asifcopied.ascents import Jumps, depths, maker, shallowest_between, way_between, way_up
from asifcopied.errors import BadDepth, BadLeast, BadMarks, BadParents, BadRecord, BadStory, BadVersion, BadWide
from asifcopied.lines import meet

from plain import drawn_story, drawn_tree, not_numbers, odd_values, plain_heaps, plain_line, small_trees
from plain import way_up as plain_up
from plain_dropping import parents_in, plain_names

BAD_PARENTS = [None, (), [None], (0,), (None, 1), (None, 0, 2), (None, -1), (None, None), (None, True), (None, False),
               (None, "0"), ("None",), 5, {0: None}, (None, 0, [0])]


def deep(many):
    return (None,) + tuple(range(many - 1))


class TestWays(unittest.TestCase):
    def test_small_trees(self):
        for parents in small_trees():
            self.check(parents, [(one, other) for one in range(len(parents)) for other in range(len(parents))])

    def test_drawn_trees(self):
        for seed in range(20):
            rng = random.Random(seed)
            parents = drawn_tree(rng, 40)
            self.check(parents, [(rng.randrange(40), rng.randrange(40)) for _ in range(40)])

    def check(self, parents, pairs):
        ways = [plain_up(parents, version) for version in range(len(parents))]
        line = plain_line(parents)
        self.assertEqual(depths(parents), tuple(len(way) - 1 for way in ways))
        for version, way in enumerate(ways):
            self.assertEqual(way_up(parents, version), tuple(way))
        for one, other in pairs:
            top = max(set(ways[one]) & set(ways[other]))
            up = tuple(version for version in ways[one] if version not in ways[top])
            down = tuple(version for version in reversed(ways[other]) if version not in ways[top])
            self.assertEqual(way_between(parents, one, other), (up, down))
            low = shallowest_between(parents, one, other)
            if one == other:
                self.assertIsNone(low)
                continue
            first, last = sorted([line.index(one), line.index(other)])
            behind = line[first + 1:last + 1]
            least = min(len(ways[version]) for version in behind)
            self.assertEqual(low, [version for version in behind if len(ways[version]) == least][0])
            # The fact: what the meet is.
            ahead = line[first]
            self.assertEqual(top, ahead if len(ways[low]) > len(ways[ahead]) else parents[low])
            self.assertEqual(top, meet(parents, one, other))

    def test_by_names(self):
        parents = (None, 0, 1, 0, 1)
        self.assertEqual(way_up(parents=parents, version=4), (4, 1, 0))
        self.assertEqual(depths(parents=parents), (0, 1, 2, 1, 2))
        self.assertEqual(way_between(parents=parents, one=4, other=3), ((4, 1), (3,)))
        self.assertEqual(shallowest_between(parents=parents, one=4, other=3), 1)
        self.assertEqual(way_between((None,), 0, 0), ((), ()))

    def test_errors_in_their_sequence(self):
        for bad in BAD_PARENTS + [value for value in odd_values() if value != (None,)]:
            for call in [lambda: way_up(bad, None), lambda: depths(bad), lambda: way_between(bad, None, None),
                         lambda: shallowest_between(bad, None, None)]:
                with self.assertRaises(BadParents):
                    call()
        for bad in not_numbers(0, 2):
            for call in [lambda: way_up((None, 0, 1), bad), lambda: way_between((None, 0, 1), bad, 0),
                         lambda: way_between((None, 0, 1), 0, bad), lambda: shallowest_between((None, 0, 1), bad, 0),
                         lambda: shallowest_between((None, 0, 1), 0, bad)]:
                with self.assertRaises(BadVersion):
                    call()

    def test_a_long_row(self):
        parents = deep(2000) + (0,)
        self.assertEqual(way_up(parents, 1999), tuple(range(1999, -1, -1)))
        self.assertEqual(depths(parents)[1999], 1999)
        self.assertEqual(way_between(parents, 1999, 2000), (tuple(range(1999, 0, -1)), (2000,)))
        self.assertEqual(shallowest_between(parents, 2000, 1999), 1)


def jumps_of(parents):
    jumps = Jumps()
    for version in range(1, len(parents)):
        assert jumps.grow(parents[version]) == version
    return jumps


class TestJumps(unittest.TestCase):
    def plain_jumps(self, parents):
        """The words of the document."""
        told, far = [0], depths(parents)
        for version in range(1, len(parents)):
            parent = parents[version]
            middle = told[parent]
            top = told[middle]
            told.append(top if far[parent] - far[middle] == far[middle] - far[top] else parent)
        return told

    def test_against_ways_up(self):
        for seed in range(20):
            rng = random.Random(seed)
            parents = drawn_tree(rng, 60) if seed % 2 else deep(60)
            jumps, far, told = jumps_of(parents), depths(parents), self.plain_jumps(parents)
            self.assertEqual((jumps.many(), jumps.parents()), (60, parents))
            for version in range(60):
                self.assertEqual(jumps.jump(version), told[version])
                for depth in range(far[version] + 1):
                    here, steps = version, 0
                    while far[here] != depth:
                        here = told[here] if far[told[here]] >= depth else parents[here]
                        steps += 1
                    self.assertEqual(jumps.up(version, depth), (here, steps))
                    self.assertIn(here, plain_up(parents, version))
                    self.assertLessEqual(steps, 3 * ((far[version] + 1).bit_length() - 1))

    def test_steps_for_depths_up_to_two_thousand(self):
        jumps = jumps_of(deep(2001))
        for version in list(range(1, 2001, 7)) + [2000, 1999, 1023, 1024, 1022]:
            most = 3 * ((version + 1).bit_length() - 1)
            self.assertLessEqual(max(jumps.up(version, depth)[1] for depth in range(version + 1)), most)
            self.assertEqual(jumps.up(version, version // 2)[0], version // 2)

    def test_jumps_are_never_changed(self):
        rng = random.Random(5)
        jumps, told = Jumps(), [0]
        self.assertEqual((jumps.many(), jumps.parents(), jumps.jump(0), jumps.up(0, 0)), (1, (None,), 0, (0, 0)))
        for _ in range(100):
            version = jumps.grow(parent=rng.randrange(len(told)))
            self.assertEqual(version, len(told))
            told.append(jumps.jump(version))
            self.assertEqual([jumps.jump(one) for one in range(len(told))], told)

    def test_first_with(self):
        for seed in range(40):
            rng = random.Random(seed)
            parents = drawn_tree(rng, 40) if seed % 3 else deep(40)
            jumps, marks = jumps_of(parents), [rng.randrange(3)]
            for version in range(1, 40):
                marks.append(marks[parents[version]] + rng.choice([0, 0, 0, 1, 5]))
            for version in range(40):
                for least in {0, 1, marks[version], marks[version] + 1, rng.randrange(20)}:
                    fits = [one for one in plain_up(parents, version) if marks[one] >= least]
                    self.assertEqual(jumps.first_with(version, marks, least), fits[-1] if fits else None)
            self.assertEqual(jumps.first_with(version=39, marks=tuple(marks), least=0), 0)

    def test_errors_in_their_sequence(self):
        jumps = jumps_of((None, 0, 1, 0))
        for bad in not_numbers(0, 3):
            for call in [lambda: jumps.grow(bad), lambda: jumps.jump(bad), lambda: jumps.up(bad, None),
                         lambda: jumps.first_with(bad, None, None)]:
                with self.assertRaises(BadVersion):
                    call()
        for bad in not_numbers(0, 2):
            with self.assertRaises(BadDepth):
                jumps.up(2, bad)
        for bad in [None, 5, {}, "0000", [0, 0, 0], [0] * 5, [0, 0, 0, None], [True, 1, 1, 1], [0, 1, 1, False], [0, 0, 0, -1],
                    [1, 0, 0, 1], [1, 1, 0, 1], [1, 1, 1, 0], [0, 0, 0, "1"], [0, 0, 0, 10 ** 18], {0: 0, 1: 0, 2: 0, 3: 0}]:
            with self.assertRaises(BadMarks):
                jumps.first_with(0, bad, None)
        for bad in not_numbers(0):
            with self.assertRaises(BadLeast):
                jumps.first_with(1, [0, 0, 0, 0], bad)
        self.assertEqual(jumps.up(version=2, depth=1), (1, 1))
        self.assertEqual(jumps.many(), 4)
        for value in odd_values():
            self.assertFalse(jumps == value)


class TestMaker(unittest.TestCase):
    def test_against_plain_copies(self):
        for seed in range(40):
            wide = 1 + seed % 3
            story = drawn_story(seed, 15, wide, records=6)
            names = plain_names(story, wide)
            for version, told in enumerate(names):
                for record, (made, _) in enumerate(told):
                    self.assertEqual(maker(story, wide, version, record), made)

    def test_errors_in_their_sequence(self):
        story = [(0, [("make", (1,))]), (0, [])]
        for bad in not_numbers(1, 6):
            with self.assertRaises(BadWide):
                maker(None, bad, None, None)
        for bad in [None, {}, 5, [(1, [])], [(0, [("set", 1, 0, 0)])]]:
            with self.assertRaises(BadStory):
                maker(bad, 1, None, None)
        for bad in not_numbers(0, 2):
            with self.assertRaises(BadVersion):
                maker(story, 1, bad, None)
        for version, most in [(0, 0), (1, 1), (2, 0)]:
            for bad in not_numbers(0, most):
                with self.assertRaises(BadRecord):
                    maker(story, 1, version, bad)
        self.assertEqual(maker(story=story, wide=1, version=1, record=1), 1)

    def test_a_chain_and_a_row(self):
        story = [(at, [("make", (("to", at), None))]) for at in range(1400)]
        for record in (0, 1, 700, 1400):
            self.assertEqual(maker(story, 2, 1400, record), record)
        self.assertEqual(parents_in(story), deep(1401))
        self.assertEqual(len(plain_heaps(story, 2)[-1]), 1401)


if __name__ == "__main__":
    unittest.main()
