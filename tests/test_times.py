"""Point [92]: where a way leads to a value, since when, and who gave it."""

import itertools
import random
import unittest

from asifcopied.errors import BadField, BadHeap, BadRecord, BadStory, BadValue, BadVersion, BadWay, BadWide, NoWay
from asifcopied.times import giver, led_to, since, times_of

from plain import drawn_story, not_numbers, odd_values, plain_heaps, plain_line
from plain_courses import plain_walk
from plain_dropping import parents_in
from plain_times import plain_giver, plain_led, plain_since, plain_times

STORY = [(0, [("make", (1, None)), ("set", 0, 0, ("to", 1))]), (1, [("set", 1, 0, 2)]),
         (1, [("make", (5, ("to", 1))), ("set", 0, 0, ("to", 2))])]
BAD_WAYS = [None, [], [0], 0, (2,), (-1,), (True,), (0, None), ("0",), (0, 10 ** 18), {0: 0}, "00", ((0,),), (0.0,)]
BAD_STORIES = [None, {}, 5, "ab", [()], [(1, [])], [(0, None)], [(0, [("set", 0, 2, 0)])], [[0, []]]]


def ways(wide, longest):
    return [way for many in range(longest + 1) for way in itertools.product(range(wide), repeat=many)]


class TestLedTo(unittest.TestCase):
    def test_against_walks(self):
        for seed in range(20):
            wide = 1 + seed % 3
            heaps = plain_heaps(drawn_story(seed, 6, wide, records=4), wide)
            for way in ways(wide, 4):
                kind, told = plain_walk(heaps[-1], way)
                if kind == "value":
                    self.assertEqual(led_to(heaps[-1], wide, way), told)
                else:
                    with self.assertRaises(NoWay) as caught:
                        led_to(heaps[-1], wide, way)
                    self.assertEqual(caught.exception.at, told)
        self.assertEqual(led_to(heap=((("to", 0),),), wide=1, way=()), ("to", 0))

    def test_errors_in_their_sequence(self):
        for bad in not_numbers(1, 6):
            with self.assertRaises(BadWide):
                led_to(None, bad, None)
        for bad in [None, (), [], ((None,),), ((None, ("to", 1)),), [(None, None)], ((None, True),)]:
            with self.assertRaises(BadHeap):
                led_to(bad, 2, None)
        for bad in BAD_WAYS:
            with self.assertRaises(BadWay):
                led_to(((None, None),), 2, bad)


class TestTimes(unittest.TestCase):
    def test_against_plain_heaps(self):
        for seed in range(40):
            rng = random.Random(seed)
            wide = 1 + seed % 3
            story = drawn_story(seed, 14, wide, records=4)
            heaps, line = plain_heaps(story, wide), plain_line(parents_in(story))
            for way in ways(wide, 3 if wide < 3 else 2):
                led = [plain_led(heap, way) for heap in heaps]
                values = {one[1] for one in led if one} | {None, 0, rng.randrange(-3, 4), ("to", rng.randrange(5)), ("to", 99)}
                changes = sum(1 for version in range(1, len(heaps)) if led[version] != led[story[version - 1][0]])
                for value in values:
                    told = times_of(story, wide, way, value)
                    self.assertEqual(told, plain_times(story, wide, way, value))
                    self.assertLessEqual(len(told), changes + 1)
                runs = [key for key, _ in itertools.groupby(led[version] for version in line)]
                self.assertLessEqual(len(runs), 2 * changes + 1)
                for version in range(len(heaps)):
                    self.assertEqual(since(story, wide, version, way), plain_since(story, wide, version, way))

    def test_giver(self):
        for seed in range(40):
            wide = 1 + seed % 3
            story = drawn_story(seed, 14, wide, records=4)
            for version, heap in enumerate(plain_heaps(story, wide)):
                for record in range(len(heap)):
                    for field in range(wide):
                        told = giver(story, wide, version, record, field)
                        self.assertEqual(told, plain_giver(story, wide, version, record, field))

    def test_by_hand(self):
        self.assertEqual(times_of(story=STORY, wide=2, way=(0, 0), value=1), [(1, 1)])
        self.assertEqual(times_of(STORY, 2, (0, 0), 5), [(3, 3)])
        self.assertEqual(times_of(STORY, 2, (0, 0), None), [])
        self.assertEqual(times_of(STORY, 2, (), ("to", 0)), [(0, 2)])
        self.assertEqual(times_of(STORY, 2, (0,), ("to", 1)), [(1, 1), (2, 2)])
        self.assertEqual(times_of(STORY, 2, (0, 1), None), [(1, 1), (2, 2)])
        self.assertEqual(giver(story=STORY, wide=2, version=3, record=1, field=0), 1)
        self.assertEqual(since(story=STORY, wide=2, version=2, way=(0,)), 1)
        self.assertEqual((since(STORY, 2, 3, (0, 1, 1)), since(STORY, 2, 2, (0, 1, 1)), since(STORY, 2, 2, (0, 1))), (3, 0, 1))

    def test_values_given_anew(self):
        """The value that was there makes no difference, nor does one that is led away and back within one deed."""
        story = [(0, [("set", 0, 0, 5)]), (1, [("set", 0, 0, 5)]), (2, [("set", 0, 0, 6), ("set", 0, 0, 5)]),
                 (3, [("set", 0, 0, ("to", 0))]), (4, [("set", 0, 0, ("to", 0))]), (5, [("set", 0, 0, None)]), (6, [])]
        self.assertEqual([since(story, 1, version, (0,)) for version in range(8)], [0, 1, 1, 1, 4, 4, 6, 6])
        self.assertEqual([giver(story, 1, version, 0, 0) for version in range(8)], [0, 1, 1, 1, 4, 4, 6, 6])
        self.assertEqual(times_of(story, 1, (0,), 5), [(1, 3)])
        self.assertEqual(times_of(story, 1, (0,), None), [(0, 0), (6, 7)])
        # Behind version 3 the way goes round; before and behind that it leads to nothing at all, which is not None.
        self.assertEqual(times_of(story, 1, (0, 0), ("to", 0)), [(4, 5)])
        self.assertEqual(times_of(story, 1, (0, 0), None), [])
        self.assertEqual([since(story, 1, version, (0, 0)) for version in range(8)], [0, 0, 0, 0, 4, 4, 6, 6])

    def test_nothing_is_nothing_wherever_the_way_ends(self):
        story = [(0, [("make", (None,)), ("set", 0, 0, ("to", 1))]), (1, [("set", 0, 0, 3)])]
        self.assertEqual(since(story, 1, 2, (0, 0, 0)), 0)

    def test_errors_in_their_sequence(self):
        for bad in not_numbers(1, 6):
            for call in [lambda: times_of(None, bad, None, None), lambda: since(None, bad, None, None),
                         lambda: giver(None, bad, None, None, None)]:
                with self.assertRaises(BadWide):
                    call()
        for bad in BAD_STORIES:
            for call in [lambda: times_of(bad, 2, None, None), lambda: since(bad, 2, None, None),
                         lambda: giver(bad, 2, None, None, None)]:
                with self.assertRaises(BadStory):
                    call()
        for bad in not_numbers(0, 3):
            for call in [lambda: since(STORY, 2, bad, None), lambda: giver(STORY, 2, bad, None, None)]:
                with self.assertRaises(BadVersion):
                    call()
        for bad in BAD_WAYS:
            for call in [lambda: times_of(STORY, 2, bad, True), lambda: since(STORY, 2, 0, bad)]:
                with self.assertRaises(BadWay):
                    call()
        for bad in [True, False, "", "1", (), (0,), [], ["to", 0], ("to", -1), ("to", True), ("to",), ("to", 0, 0), ("in", 0), {},
                    10 ** 18, ("to", 10 ** 18)]:
            with self.assertRaises(BadValue):
                times_of(STORY, 2, (0,), bad)
        for version, most in [(0, 0), (2, 1), (3, 2)]:
            for bad in not_numbers(0, most):
                with self.assertRaises(BadRecord):
                    giver(STORY, 2, version, bad, None)
        for bad in not_numbers(0, 1):
            with self.assertRaises(BadField):
                giver(STORY, 2, 3, 2, bad)

    def test_what_is_returned_is_new(self):
        told = times_of(STORY, 2, (0, 0), 1)
        told.clear()
        self.assertEqual(times_of(STORY, 2, (0, 0), 1), [(1, 1)])
        for value in odd_values():
            self.assertNotEqual(times_of(STORY, 2, (), ("to", 0)), value)

    def test_a_chain_and_a_row(self):
        many = 1200
        deed = [("make", (0, None))] * many + [("set", at + 1, 1, ("to", at + 2)) for at in range(many - 1)]
        story = [(0, deed + [("set", 0, 1, ("to", 1))])] + [(at, [("set", many, 0, at % 3)]) for at in range(1, many)]
        way = (1,) * many + (0,)
        self.assertEqual(times_of(story, 2, way, 0)[:2], [(1, 1), (4, 4)])
        self.assertEqual(len(times_of(story, 2, way, 1)), 400)
        self.assertEqual((since(story, 2, many, way), since(story, 2, many, way[:-1])), (many, 1))
        self.assertEqual(led_to(plain_heaps(story[:1], 2)[1], 2, way), 0)
        self.assertEqual((giver(story, 2, many, many, 0), giver(story, 2, many, many, 1)), (many, 1))


if __name__ == "__main__":
    unittest.main()
