"""Point [10]: pointed, reached, seen, look_alike."""

import itertools
import random
import unittest

from asifcopied.checks import is_heap
from asifcopied.errors import BadHeap
from asifcopied.heaps import look_alike, pointed, reached, seen

from plain import drawn_value, odd_values, plain_pointed, plain_seen


def to(record):
    return ("to", record)


def drawn_heaps(seed, many):
    rng = random.Random(seed)
    for _ in range(many):
        wide = rng.randrange(1, 4)
        size = rng.randrange(1, 7)
        yield tuple(tuple(drawn_value(rng, size) for _ in range(wide)) for _ in range(size)), wide


def ways_alike(one, other, wide):
    """The fact of [10]: every way leads to the same, and ways meet in the one as in the other."""
    pairs = [(0, 0)]
    for here, there in pairs:
        for left, right in zip(one[here], other[there]):
            if isinstance(left, tuple) and isinstance(right, tuple):
                if (left[1], right[1]) not in pairs:
                    pairs.append((left[1], right[1]))
            elif left != right:
                return False
    return len(pairs) == len({here for here, _ in pairs}) == len({there for _, there in pairs})


class TestHeaps(unittest.TestCase):
    def test_by_hand(self):
        heap = ((to(2), None), (1, None), (5, to(1)))
        self.assertEqual(pointed(heap, 2), (0, 1, 1))
        self.assertEqual(reached(heap, 2), (0, 1, 2))
        self.assertEqual(seen(heap, 2), ((to(1), None), (5, to(2)), (1, None)))

    def test_nothing_leads_to_them(self):
        heap = ((7, None), (to(0), to(2)), (to(1), to(2)))
        self.assertEqual(pointed(heap, 2), (1, 1, 2))
        self.assertEqual(reached(heap, 2), (0,))
        self.assertEqual(seen(heap, 2), ((7, None),))

    def test_rings_and_selves(self):
        ring = ((to(2),), (to(0),), (to(1),))
        self.assertEqual(pointed(ring, 1), (1, 1, 1))
        self.assertEqual(reached(ring, 1), (0, 1, 2))
        self.assertEqual(seen(ring, 1), ((to(1),), (to(2),), (to(0),)))
        alone = ((to(0), to(0), 3),)
        self.assertEqual(pointed(alone, 3), (2,))
        self.assertEqual(reached(alone, 3), (0,))
        self.assertEqual(seen(alone, 3), alone)

    def test_several_fields_lead_to_one(self):
        heap = ((to(3), to(1), to(3)), (to(3), 1, 1), (2, 2, 2), (to(3), to(0), None))
        self.assertEqual(pointed(heap, 3), (1, 1, 0, 4))
        self.assertEqual(reached(heap, 3), (0, 1, 3))
        self.assertEqual(seen(heap, 3), ((to(1), to(2), to(1)), (to(1), to(0), None), (to(1), 1, 1)))

    def test_met_in_the_sequence_of_their_meeting(self):
        # By breadth: both of the root's records are met ahead of what the first one leads to.
        heap = ((to(1), to(2)), (to(3), 1), (2, 2), (3, 3))
        self.assertEqual(seen(heap, 2), ((to(1), to(2)), (to(3), 1), (2, 2), (3, 3)))
        turned = ((to(3), to(1)), (2, 2), (3, 3), (to(2), 1))
        self.assertEqual(seen(turned, 2), seen(heap, 2))
        self.assertTrue(look_alike(heap, turned, 2))

    def test_drawn(self):
        for heap, wide in drawn_heaps(1, 400):
            self.assertEqual(pointed(heap, wide), tuple(plain_pointed(heap)))
            told = seen(heap, wide)
            self.assertEqual(told, plain_seen(heap))
            self.assertTrue(is_heap(told, wide))
            self.assertEqual(seen(told, wide), told)
            self.assertEqual(len(reached(heap, wide)), len(told))
            self.assertEqual(reached(told, wide), tuple(range(len(told))))
            self.assertIs(look_alike(heap, told, wide), True)
            self.assertIs(look_alike(told, heap, wide), True)

    def test_ways(self):
        values = [None, 1, to(0), to(1), to(2)]
        heaps = [tuple(zip(row[::2], row[1::2])) for row in itertools.product(values, repeat=6)]
        rng = random.Random(3)
        some = rng.sample(heaps, 120)
        alike = 0
        for one in some:
            for other in some:
                self.assertIs(look_alike(one, other, 2), ways_alike(one, other, 2))
                alike += one != other and look_alike(one, other, 2)
        self.assertGreater(alike, 20)

    def test_look_alike_both_ways_about(self):
        one = ((to(1), to(2)), (4, None), (4, None))
        cases = [(((to(2), to(1)), (4, None), (4, None)), True),
                 (((to(2), to(3)), (9, 9), (4, None), (4, None)), True),
                 (((to(1), to(2)), (4, None), (5, None)), False),
                 (((to(1), to(1)), (4, None), (4, None)), False),
                 (((to(1), to(2)), (4, 0), (4, None)), False),
                 (((to(1), None), (4, None)), False)]
        for other, told in cases:
            self.assertIs(look_alike(one, other, 2), told)
            self.assertIs(look_alike(other, one, 2), told)
            self.assertIs(look_alike(one=other, other=one, wide=2), told)

    def test_errors(self):
        good = ((None,),)
        for bad in odd_values():
            if is_heap(bad, 1):
                continue
            for call in [lambda: pointed(bad, 1), lambda: reached(bad, 1), lambda: seen(bad, 1),
                         lambda: look_alike(bad, good, 1), lambda: look_alike(good, bad, 1)]:
                with self.assertRaises(BadHeap):
                    call()
        self.assertEqual(pointed(heap=good, wide=1), (0,))
        self.assertEqual(reached(heap=good, wide=1), (0,))
        self.assertEqual(seen(heap=good, wide=1), good)

    def test_two_thousand(self):
        chain = tuple((to(record + 1),) for record in range(1999)) + ((None,),)
        self.assertEqual(reached(chain, 1), tuple(range(2000)))
        self.assertEqual(seen(chain, 1), chain)
        self.assertEqual(pointed(chain, 1), (0,) + (1,) * 1999)
        ring = tuple((to((record + 1) % 2000),) for record in range(2000))
        self.assertEqual(seen(ring, 1), ring)
        back = tuple((to((record - 1) % 2000),) for record in range(2000))
        self.assertTrue(look_alike(ring, back, 1))
        self.assertFalse(look_alike(ring, chain, 1))
        self.assertEqual(reached(back, 1), tuple(range(2000)))


if __name__ == "__main__":
    unittest.main()
