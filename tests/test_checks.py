"""Points [4], [5], [10]: numbers, wide, values and heaps."""

import unittest

from asifcopied.cells import Cells
from asifcopied.changes import after, heap_at, heaps_of, is_story, parents_of
from asifcopied.checks import is_heap
from asifcopied.errors import BadWide
from asifcopied.fats import Fat
from asifcopied.heaps import look_alike, pointed, reached, seen

from plain import GREATEST, not_numbers, odd_values


class TestIsHeap(unittest.TestCase):
    def test_heaps(self):
        self.assertIs(is_heap(((None,),), 1), True)
        self.assertIs(is_heap(((None, 0), (("to", 0), ("to", 1))), 2), True)
        self.assertIs(is_heap(((1, 2, 3, 4, 5, 6),), 6), True)
        self.assertIs(is_heap(((("to", 0),),), 1), True)
        self.assertIs(is_heap(value=((("to", 1),), (-3,)), wide=1), True)

    def test_numbers(self):
        for number in [0, 1, -1, GREATEST, -GREATEST]:
            self.assertIs(is_heap(((number,),), 1), True)
        for other in [GREATEST + 1, -GREATEST - 1, 10 ** 40, True, False, "1", "", [], {}, (), (1,)]:
            self.assertIs(is_heap(((other,),), 1), False, other)
            self.assertIs(is_heap(((None, 1), (other, None)), 2), False, other)

    def test_pointers(self):
        good = ((("to", 1),), (5,))
        self.assertTrue(is_heap(good, 1))
        for bad in [("to", 2), ("to", -1), ("to", True), ("to", False), ("to", None), ("to", "1"), ("to",), ["to", 1],
                    ("to", 1, 1), ("in", 1), (1, "to"), ("to", (1,)), ("to", 10 ** 18), ("To", 1), "to", {"to": 1}]:
            self.assertIs(is_heap(((bad,), (5,)), 1), False, bad)

    def test_forms(self):
        for bad in [(), [], [(None,)], ([None],), ((),), ((None,), ()), ((None,), (None, None)), ((None, None),),
                    (None,), None, "", {}, {0: (None,)}, ((None,), [None]), 0, (((None,),),)]:
            self.assertIs(is_heap(bad, 1), False, bad)
        self.assertIs(is_heap(((None,),), 2), False)
        self.assertIs(is_heap(((None, None, None),), 2), False)

    def test_any_value(self):
        heaps = [(1, ((None,),)), (1, ((("to", 0),),)), (2, ((0, None),))]
        for value in odd_values():
            for wide in range(1, 7):
                self.assertIs(is_heap(value, wide), (wide, value) in heaps, value)

    def test_two_thousand_records(self):
        rows = tuple((("to", (record + 1) % 2000), record) for record in range(2000))
        self.assertIs(is_heap(rows, 2), True)
        self.assertIs(is_heap(rows[:-1] + ((("to", 2000), 1),), 2), False)


class TestWide(unittest.TestCase):
    def test_bad_wide_comes_first(self):
        bad = None
        for wide in not_numbers(1, 6):
            for call in [lambda: is_heap(bad, wide), lambda: pointed(bad, wide), lambda: reached(bad, wide),
                         lambda: seen(bad, wide), lambda: look_alike(bad, bad, wide), lambda: after(bad, bad, wide),
                         lambda: is_story(bad, wide), lambda: parents_of(bad, wide), lambda: heaps_of(bad, wide),
                         lambda: heap_at(bad, wide, bad), lambda: Fat(wide), lambda: Cells(wide, bad, bad)]:
                with self.assertRaises(BadWide):
                    call()

    def test_all_wides(self):
        for wide in range(1, 7):
            heap = ((None,) * wide,)
            self.assertTrue(is_heap(heap, wide))
            self.assertEqual(pointed(heap, wide), (0,))
            self.assertEqual(Fat(wide).heap(0), heap)
            self.assertEqual(Cells(wide, 1, 1).heap(0), heap)
            self.assertEqual(heaps_of([], wide), (heap,))


if __name__ == "__main__":
    unittest.main()
