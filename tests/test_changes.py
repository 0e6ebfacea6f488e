"""Points [11] to [13]: deeds and stories."""

import copy
import itertools
import unittest

from asifcopied.changes import after, are_parents, heap_at, heaps_of, is_story, parents_of
from asifcopied.checks import is_heap
from asifcopied.errors import BadDeed, BadHeap, BadStory, BadVersion, BadWide

from plain import GREATEST, drawn_story, not_numbers, odd_values, plain_copy, plain_heaps, way_up

STORY = [(0, [("make", (1, None)), ("set", 0, 0, ("to", 1))]), (1, [("set", 1, 0, 2)]),
         (1, [("make", (5, ("to", 1))), ("set", 0, 0, ("to", 2))])]
HEAPS = (((None, None),), ((("to", 1), None), (1, None)), ((("to", 1), None), (2, None)),
         ((("to", 2), None), (1, None), (5, ("to", 1))))
TWO = ((1, 2), (3, ("to", 0)))


class TestAfter(unittest.TestCase):
    def refused(self, heap, deed, wide, at):
        kept = repr((heap, deed))
        with self.assertRaises(BadDeed) as caught:
            after(heap, deed, wide)
        self.assertEqual(caught.exception.at, at)
        self.assertEqual(repr((heap, deed)), kept)

    def test_each_kind(self):
        self.assertEqual(after(TWO, [], 2), TWO)
        self.assertEqual(after(TWO, [("set", 1, 0, 7)], 2), ((1, 2), (7, ("to", 0))))
        self.assertEqual(after(TWO, [("set", 0, 1, None)], 2), ((1, None), (3, ("to", 0))))
        self.assertEqual(after(TWO, [("set", 0, 1, ("to", 1))], 2), ((1, ("to", 1)), (3, ("to", 0))))
        self.assertEqual(after(TWO, [("make", (None, -9))], 2), TWO + ((None, -9),))
        self.assertEqual(after(heap=TWO, deed=[("set", 0, 0, 1)], wide=2), TWO)
        self.assertEqual(after(TWO, [("set", 0, 0, GREATEST), ("set", 0, 1, -GREATEST)], 2),
                         ((GREATEST, -GREATEST), TWO[1]))

    def test_one_behind_another(self):
        deed = [("make", (("to", 2), ("to", 0))), ("set", 0, 0, ("to", 2)), ("set", 2, 1, ("to", 1)),
                ("make", (("to", 2), ("to", 3))), ("set", 2, 0, 4), ("set", 2, 0, 5)]
        heap = ((("to", 2), 2), (3, ("to", 0)), (5, ("to", 1)), (("to", 2), ("to", 3)))
        self.assertEqual(after(TWO, deed, 2), heap)
        self.assertEqual(after(TWO, tuple(deed), 2), heap)
        kept = copy.deepcopy(deed)
        after(TWO, deed, 2)
        self.assertEqual(deed, kept)

    def test_what_is_not_there(self):
        for change in [("set", 2, 0, 1), ("set", -1, 0, 1), ("set", 0, 2, 1), ("set", 0, -1, 1),
                       ("set", 0, 0, ("to", 2)), ("make", (("to", 3), None)), ("make", (None, ("to", -1))),
                       ("set", True, 0, 1), ("set", 0, True, 1), ("set", 0, False, 1), ("set", 0, 0, True),
                       ("set", 0, 0, ("to", True)), ("set", 0, 0, GREATEST + 1), ("make", (0, -GREATEST - 1)),
                       ("set", None, 0, 1), ("set", 0, None, 1), ("set", "0", 0, 1), ("set", 0, 0, "1"),
                       ("set", 0, 0, ["to", 0]), ("set", 0, 0, ("in", 0)), ("make", (False, None))]:
            self.refused(TWO, [change], 2, 0)
            self.refused(TWO, [("set", 0, 0, 1), ("set", 1, 1, ("to", 1)), change, ("nothing",)], 2, 2)

    def test_other_forms(self):
        for change in [(), ("set",), ("set", 0, 0), ("set", 0, 0, 1, 1), ["set", 0, 0, 1], ("make",), ("make", None),
                       ("make", [1, 2]), ("make", (1,)), ("make", (1, 2, 3)), ["make", (1, 2)], ("make", 1, 2),
                       ("drop", 0), ("drop", (1, 2)), (None, (1, 2)), ("drop", 0, 0, 1), ("SET", 0, 0, 1), "set", None, 0, True, {}, ("make", (1, 2), 3),
                       {"set": 1}, (0, 0, 0, "set"), ((1, 2), "make")]:
            self.refused(TWO, [change], 2, 0)
            self.refused(TWO, (("make", (1, 2)), change), 2, 1)
        for value in odd_values():
            self.refused(TWO, [value], 2, 0)

    def test_no_list(self):
        for value in odd_values():
            if not isinstance(value, (list, tuple)):
                self.refused(TWO, value, 2, None)
        self.refused(TWO, {}, 2, None)
        self.refused(TWO, "", 2, None)
        self.assertEqual(after(TWO, (), 2), TWO)

    def test_where_it_stands(self):
        deed = [("set", 0, 0, ("to", 2)), ("make", (1, 2))]
        self.refused(TWO, deed, 2, 0)
        self.assertEqual(after(TWO, deed[::-1], 2), ((("to", 2), 2), TWO[1], (1, 2)))
        self.refused(TWO, [("make", (1, ("to", 3))), ("make", (1, 2))], 2, 0)
        self.refused(TWO, [("make", (1, 2)), ("set", 3, 0, 0)], 2, 1)
        self.refused(TWO, [("make", (1, 2)), ("make", (1, 2)), ("set", 3, 0, 0), ("set", 4, 0, 0)], 2, 3)

    def test_errors_ahead(self):
        for bad in odd_values():
            if not is_heap(bad, 2):
                with self.assertRaises(BadHeap):
                    after(bad, None, 2)
        with self.assertRaises(BadWide):
            after(None, None, 0)

    def test_drawn(self):
        for seed in range(20):
            story = drawn_story(seed, 20, 2)
            heaps = plain_heaps(story, 2)
            for at, (parent, deed) in enumerate(story):
                self.assertEqual(after(heaps[parent], deed, 2), heaps[at + 1])
                kept = len(heaps[parent])
                self.assertGreaterEqual(len(heaps[at + 1]), kept)


class TestParents(unittest.TestCase):
    def test_are_parents(self):
        for good in [(None,), (None, 0), (None, 0, 1), (None, 0, 0, 2, 1)]:
            self.assertIs(are_parents(good), True)
        for bad in [(), [None], (0,), (None, None), (None, 1), (None, 0, 2), (None, -1), (None, False), (None, 0, True),
                    (None, 0, 1, 3), [None, 0], (None, 0, "1"), (None, (0,)), None, "", {None: 0}, (False,), (0, 0)]:
            self.assertIs(are_parents(bad), False, bad)
        for value in odd_values():
            self.assertIs(are_parents(value), value == (None,), value)

    def test_all_small_tuples(self):
        for size in range(1, 5):
            for row in itertools.product([None, 0, 1, 2, 3], repeat=size):
                plain = row[0] is None and all(row[at] in range(at) for at in range(1, size))
                self.assertIs(are_parents(value=row), plain)


class TestStory(unittest.TestCase):
    def test_by_hand(self):
        self.assertIs(is_story(STORY, 2), True)
        self.assertEqual(parents_of(STORY, 2), (None, 0, 1, 1))
        self.assertEqual(heaps_of(STORY, 2), HEAPS)
        for version in range(4):
            self.assertEqual(heap_at(STORY, 2, version), HEAPS[version])
        with self.assertRaises(BadDeed) as caught:
            after(HEAPS[1], [("set", 1, 2, 0)], 2)
        self.assertEqual(caught.exception.at, 0)

    def test_without_pairs(self):
        for none in [[], ()]:
            self.assertIs(is_story(none, 3), True)
            self.assertEqual(parents_of(none, 3), (None,))
            self.assertEqual(heaps_of(none, 3), (((None, None, None),),))
            self.assertEqual(heap_at(none, 3, 0), ((None, None, None),))
            with self.assertRaises(BadVersion):
                heap_at(none, 3, 1)

    def test_tuples_for_lists(self):
        story = tuple((parent, tuple(deed)) for parent, deed in STORY)
        self.assertTrue(is_story(story, 2))
        self.assertEqual(heaps_of(story, 2), HEAPS)
        self.assertEqual(heap_at(story, 2, 3), HEAPS[3])

    def test_bad_stories(self):
        bad = [None, 0, "", {}, [None], [()], [(0,)], [(0, [], [])], [[0, []]], ([0, []],), [(1, [])], [(-1, [])],
               [(False, [])], [(0, []), (True, [])], [(0, []), (2, [])], [(None, [])], [("0", [])], [(0, None)], [(0, {})],
               [(0, "")], [(0, [None])], [(0, [("set", 0, 2, 1)])], [(0, [("set", 1, 0, 1)])], [(0, [["set", 0, 0, 1]])],
               [(0, [("make", (1, 1))]), (0, [("set", 1, 0, 1)])], [(0, [("set", 0, 0, True)])],
               [(0, [("set", 0, 0, 10 ** 18)])], [(0, [])] * 3 + [(4, [])], {0: (0, [])}]
        for value in bad:
            self.assertIs(is_story(value, 2), False, value)
            for call in [lambda: parents_of(value, 2), lambda: heaps_of(value, 2), lambda: heap_at(value, 2, None)]:
                with self.assertRaises(BadStory):
                    call()
        for value in odd_values():
            self.assertIs(is_story(value, 2), value == [] or value == (), value)

    def test_the_heap_of_the_parent(self):
        ahead = (0, [("make", (1, 1))])
        self.assertTrue(is_story([ahead, (1, [("set", 1, 0, 1)])], 2))
        self.assertFalse(is_story([ahead, (0, [("set", 1, 0, 1)])], 2))
        self.assertFalse(is_story([ahead, (0, []), (2, [("set", 0, 0, ("to", 1))])], 2))
        self.assertFalse(is_story([ahead, (1, [("set", 2, 0, 1)])], 2))

    def test_bad_version(self):
        for bad in not_numbers(0, 3):
            with self.assertRaises(BadVersion):
                heap_at(STORY, 2, bad)
        with self.assertRaises(BadStory):
            heap_at([(1, [])], 2, 9)
        with self.assertRaises(BadWide):
            heap_at([(1, [])], 0, 9)
        self.assertEqual(heap_at(story=STORY, wide=2, version=2), HEAPS[2])
        self.assertEqual(parents_of(story=STORY, wide=2), (None, 0, 1, 1))
        self.assertEqual(heaps_of(story=STORY, wide=2), HEAPS)
        self.assertTrue(is_story(value=STORY, wide=2))

    def test_facts(self):
        for seed in range(30):
            wide = 1 + seed % 4
            story = drawn_story(seed, 25, wide)
            kept = copy.deepcopy(story)
            heaps = heaps_of(story, wide)
            self.assertEqual(list(heaps), plain_heaps(story, wide))
            for version in range(len(heaps)):
                self.assertEqual(heap_at(story, wide, version), heaps[version])
                self.assertEqual(heaps_of(story[:version], wide), heaps[:version + 1])
            for version, (parent, deed) in enumerate(story, 1):
                self.assertEqual(plain_copy(heaps[parent], deed), heaps[version])
            self.assertEqual(story, kept)

    def test_same_ways_same_heaps(self):
        for seed in range(10):
            story = drawn_story(seed, 12, 2)
            parents = parents_of(story, 2)
            for version in range(13):
                way = way_up(parents, version)[::-1][1:]
                alone = [(at, story[made - 1][1]) for at, made in enumerate(way)]
                self.assertEqual(heaps_of(alone, 2)[-1], heap_at(story, 2, version))

    def test_two_thousand_versions(self):
        row = [(at, [("set", 0, 0, at), ("make", (("to", at), at))]) for at in range(1999)]
        self.assertTrue(is_story(row, 2))
        self.assertEqual(parents_of(row, 2), (None,) + tuple(range(1999)))
        self.assertEqual(len(heap_at(row, 2, 1999)), 2000)
        self.assertEqual(heaps_of(row, 2)[1999][0], (1998, None))
        star = [(0, [("set", 0, 0, at)]) for at in range(1999)]
        self.assertEqual([heap[0][0] for heap in heaps_of(star, 1)], [None] + list(range(1999)))
        self.assertFalse(is_story(row + [(2000, [])], 2))


if __name__ == "__main__":
    unittest.main()
