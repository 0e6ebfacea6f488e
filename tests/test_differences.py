"""Point [93]: what two versions have unlike, and the least deed from one heap to another."""

import itertools
import random
import unittest

from asifcopied.changes import after
from asifcopied.differences import least_changes, least_deed, unlike
from asifcopied.errors import BadHeap, BadStory, BadVersion, BadWide

from plain import drawn_story, drawn_value, not_numbers, plain_heaps
from plain_times import plain_unlike

STORY = [(0, [("make", (1, None)), ("set", 0, 0, ("to", 1))]), (1, [("set", 1, 0, 2)]),
         (1, [("make", (5, ("to", 1))), ("set", 0, 0, ("to", 2))])]


def drawn_heap(rng, wide, records):
    return tuple(tuple(drawn_value(rng, records) for _ in range(wide)) for _ in range(records))


class TestUnlike(unittest.TestCase):
    def test_all_pairs(self):
        twins = 0
        for seed in range(40):
            wide = 1 + seed % 3
            story = drawn_story(seed, 12, wide, records=9)
            for one, other in itertools.product(range(13), repeat=2):
                told = unlike(story, wide, one, other)
                self.assertEqual(told, plain_unlike(story, wide, one, other))
                self.assertEqual(told[1], sorted(told[1], key=lambda row: row[:2]))
                twins += sum(1 for _, _, here, there in told[1] if here == there)
                if one == other:
                    self.assertEqual(told[1], [])
        self.assertGreater(twins, 10)

    def test_equal_numbers_of_unlike_records(self):
        story = [(0, [("make", (7,)), ("set", 0, 0, ("to", 1))]), (0, [("make", (7,)), ("set", 0, 0, ("to", 1))])]
        self.assertEqual(unlike(story, 1, 1, 2), (1, [(0, 0, ("to", 1), ("to", 1))]))
        self.assertEqual(unlike(story + [(1, []), (1, [])], 1, 3, 4), (2, []))

    def test_by_hand(self):
        self.assertEqual(unlike(story=STORY, wide=2, one=2, other=3), (2, [(0, 0, ("to", 1), ("to", 2)), (1, 0, 2, 1)]))
        self.assertEqual(unlike(STORY, 2, 0, 3), (1, [(0, 0, None, ("to", 2))]))
        self.assertEqual(unlike([], 2, 0, 0), (1, []))

    def test_errors_in_their_sequence(self):
        for bad in not_numbers(1, 6):
            with self.assertRaises(BadWide):
                unlike(None, bad, None, None)
        for bad in [None, {}, [(1, [])], [(0, [("set", 0, 2, 0)])], 5]:
            with self.assertRaises(BadStory):
                unlike(bad, 2, None, None)
        for bad in not_numbers(0, 3):
            with self.assertRaises(BadVersion):
                unlike(STORY, 2, bad, None)
            with self.assertRaises(BadVersion):
                unlike(STORY, 2, 0, bad)

    def test_what_is_returned_is_new(self):
        unlike(STORY, 2, 2, 3)[1].clear()
        self.assertEqual(len(unlike(STORY, 2, 2, 3)[1]), 2)


class TestLeastDeed(unittest.TestCase):
    def check(self, one, other, wide):
        deed = least_deed(one, other, wide)
        self.assertEqual(least_changes(one, other, wide), None if deed is None else len(deed))
        if len(other) < len(one):
            self.assertIsNone(deed)
            return
        self.assertEqual(after(one, deed, wide), other)
        unlike_fields = sum(1 for here, there in zip(one, other) for pair in zip(here, there) if pair[0] != pair[1])
        behind = sum(1 for record in range(len(one), len(other)) for value in other[record]
                     if isinstance(value, tuple) and value[1] > record)
        self.assertEqual(len(deed), len(other) - len(one) + unlike_fields + behind)

    def test_drawn_heaps(self):
        for seed in range(300):
            rng = random.Random(seed)
            wide = 1 + seed % 4
            self.check(drawn_heap(rng, wide, 1 + rng.randrange(4)), drawn_heap(rng, wide, 1 + rng.randrange(6)), wide)

    def test_versions_of_a_story(self):
        for seed in range(20):
            wide = 1 + seed % 3
            story = drawn_story(seed, 10, wide)
            heaps = plain_heaps(story, wide)
            for version, (parent, deed) in enumerate(story, 1):
                self.check(heaps[parent], heaps[version], wide)
                self.assertLessEqual(least_changes(heaps[parent], heaps[version], wide), len(deed))

    def changes_at(self, heap, values):
        """All changes that can be done in a small heap of one field, with these values and all pointers."""
        many = len(heap)
        told = [("set", record, 0, value) for record in range(many)
                for value in values + [("to", to) for to in range(many)]]
        return told + [("make", (value,)) for value in values + [("to", to) for to in range(many + 1)]]

    def test_none_of_fewer_changes(self):
        """By a plain search: all heaps that few changes make."""
        values = [None, 1]
        for one in [((None,),), ((1,), (("to", 0),)), ((("to", 0),),), ((("to", 1),), (None,))]:
            row, least = [one], {one: 0}
            for deep in range(1, 5):
                behind = []
                for heap in row:
                    for change in self.changes_at(heap, values):
                        told = after(heap, [change], 1)
                        if told not in least and len(told) <= 4:
                            least[told] = deep
                            behind.append(told)
                row = behind
            for other, deep in least.items():
                self.assertEqual(least_changes(one, other, 1), deep, (one, other))
            self.assertGreater(len(least), 100)

    def test_by_hand(self):
        heaps = plain_heaps(STORY, 2)
        self.assertEqual(least_changes(one=heaps[1], other=heaps[3], wide=2), 2)
        self.assertEqual(len(least_deed(one=heaps[1], other=heaps[3], wide=2)), 2)
        self.assertIsNone(least_deed(heaps[3], heaps[1], 2))
        self.assertIsNone(least_changes(heaps[3], heaps[1], 2))
        self.assertEqual((least_deed(heaps[3], heaps[3], 2), least_changes(heaps[3], heaps[3], 2)), ([], 0))
        # Two records that lead to each other: one pointer is set behind.
        self.assertEqual(least_changes(((None,),), ((None,), (("to", 2),), (("to", 1),)), 1), 3)

    def test_errors_in_their_sequence(self):
        good = ((None, None),)
        for call in [least_deed, least_changes]:
            for bad in not_numbers(1, 6):
                with self.assertRaises(BadWide):
                    call(None, None, bad)
            for bad in [None, (), [], ((None,),), ((None, ("to", 1)),), [(None, None)], ((None, True),), 5]:
                with self.assertRaises(BadHeap):
                    call(bad, good, 2)
                with self.assertRaises(BadHeap):
                    call(good, bad, 2)

    def test_chains(self):
        many = 1400
        chain = tuple((record, ("to", record + 1)) for record in range(many - 1)) + ((0, None),)
        self.check(((None, None),), chain, 2)
        self.assertEqual(least_changes(((None, None),), chain, 2), many - 1 + 2 + many - 2)
        turned = ((None, ("to", many - 1)),) + tuple((0, ("to", record)) for record in range(many - 1))
        self.check(((None, None),), turned, 2)
        self.assertEqual(least_changes(((None, None),), turned, 2), many)
        story = [(0, [("make", (0, None))] * many)] + [(at, [("set", at % many, 1, ("to", 0))]) for at in range(1, many)]
        self.assertEqual(unlike(story, 2, 1, many), (many + 1, [(at, 1, None, ("to", 0)) for at in range(1, many)]))


if __name__ == "__main__":
    unittest.main()
