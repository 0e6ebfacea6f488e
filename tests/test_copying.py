"""Points [50] to [53]: courses, plans, cells that are copied, the least plan, and the keeper Copier."""

import copy
import itertools
import random
import unittest

from asifcopied.copying import (Copier, copy_cells, is_course, is_good, is_plan, least_plan, read_cells, reason_for,
                                touched, used_slots)
from asifcopied.errors import (BadCourse, BadDeed, BadExtra, BadField, BadPlan, BadVersion, BadWay, BadWide, NoRecord,
                               NotCopied, NotNewest, NoWay)

from plain import drawn_deed, drawn_story, not_numbers, odd_values, plain_copy, plain_heaps
from plain_courses import (drawn_plan, good_sets, plain_behind, plain_cells, plain_least, plain_moved, plain_touched,
                           plain_used, plain_walk)

# Record 0 leads to record 1 from version 1 on; each number is a change of field 0 of record 1.
COURSE = [(0, [("make", (None, None)), ("set", 0, 0, ("to", 1))]), (1, [("set", 1, 0, 1)]), (2, [("set", 1, 0, 2)]),
          (3, [("set", 0, 1, 3)])]
NO_COURSES = [[(0, []), (0, [])], [(1, [])], [(0, [("set", 0, 2, 1)])], [(0, [("set", 1, 0, 1)])], [[0, []]], [(0, None)],
              [(True, [])], [(0, []), (True, [])], {}, "", None, 5, [(0, [("make", (True, None))])], [(0, [], [])]]


def drawn(seed, versions=12, records=6):
    return drawn_story(seed, versions, 1 + seed % 3, records=records, row=True), 1 + seed % 3


class TestCourses(unittest.TestCase):
    def test_is_course(self):
        for value in [[], (), COURSE, tuple(COURSE), [(0, ()), (1, [])]]:
            self.assertIs(is_course(value, 2), True)
        for value in NO_COURSES + [value for value in odd_values() if value not in ([], ())]:
            self.assertIs(is_course(value, 2), False, value)
        self.assertIs(is_course(value=COURSE, wide=1), False)

    def test_touched(self):
        for seed in range(20):
            story, wide = drawn(seed)
            heaps = plain_heaps(story, wide)
            for version in range(1, len(heaps)):
                self.assertEqual(touched(story, wide, version), tuple(plain_touched(heaps, version)))
        self.assertEqual(touched(story=COURSE, wide=2, version=1), ((0, 0),))

    def test_touched_by_what_holds_at_last(self):
        story = [(0, [("set", 0, 1, 4), ("set", 0, 1, None), ("set", 0, 0, 1), ("set", 0, 0, 2)]),
                 (1, [("make", (1, 1)), ("set", 1, 0, 5), ("set", 0, 0, 2), ("set", 0, 1, ("to", 1))])]
        self.assertEqual([touched(story, 2, version) for version in (1, 2)], [((0, 0),), ((0, 1),)])

    def test_plans(self):
        for plan in [((), (), (), ()), ((0,), (0, 1), (1,), (0,))]:
            self.assertIs(is_plan(plan, COURSE, 2), True)
        bad = [((), (), ()), ((), (), (), (), ()), [(), (), (), ()], ((), (), (), []), ((1,), (), (), ()),
               ((), (1, 0), (), ()), ((), (0, 0), (), ()), ((), (True,), (), ()), ((False,), (), (), ()),
               ((), (2,), (), ()), ((), (-1,), (), ()), ((), ("0",), (), ()), ((), (None,), (), ()), ((), None, (), ())]
        for value in bad + odd_values():
            self.assertIs(is_plan(value, COURSE, 2), False, value)
            for call in [lambda: used_slots(COURSE, 2, value), lambda: is_good(COURSE, 2, 60, value),
                         lambda: copy_cells(COURSE, 2, 60, value)]:
                with self.assertRaises(BadPlan):
                    call()
        self.assertIs(is_plan(value=(), story=[], wide=3), True)

    def test_used_slots(self):
        for seed in range(40):
            story, wide = drawn(seed)
            plan = drawn_plan(random.Random(seed), story, wide, seed % 5)
            used = used_slots(story, wide, plan)
            self.assertEqual(used, plain_used(story, wide, plan))
            most = max(slots for row in used for slots in row)
            for extra in range(most + 2):
                self.assertIs(is_good(story, wide, extra, plan), extra >= most)
        self.assertEqual(used_slots(story=COURSE, wide=2, plan=((), (), (), ())), ((0,), (1, 0), (1, 1), (1, 2), (2, 2)))
        self.assertEqual(used_slots(COURSE, 2, ((), (1,), (), ())), ((0,), (1, 0), (2, 0), (2, 1), (3, 1)))
        # A field that is touched and leads to a copied record takes one slot alone.
        story = COURSE[:1] + [(1, [("set", 0, 0, None), ("set", 0, 1, ("to", 1))])]
        self.assertEqual(used_slots(story, 2, ((), (1,)))[2], (3, 0))

    def test_errors_in_their_sequence(self):
        calls = [lambda wide, story: is_plan(None, story, wide), lambda wide, story: touched(story, wide, None),
                 lambda wide, story: used_slots(story, wide, None), lambda wide, story: is_good(story, wide, None, None),
                 lambda wide, story: copy_cells(story, wide, None, None),
                 lambda wide, story: least_plan(story, wide, None),
                 lambda wide, story: reason_for(story, wide, None, None, None)]
        for call in calls + [lambda wide, _: is_course(None, wide), lambda wide, _: Copier(wide, None)]:
            for bad in not_numbers(1, 6):
                with self.assertRaises(BadWide):
                    call(bad, None)
        for call in calls:
            for bad in NO_COURSES:
                with self.assertRaises(BadCourse):
                    call(2, bad)
        for bad in not_numbers(0, 60):
            for call in [lambda: is_good(COURSE, 2, bad, None), lambda: copy_cells(COURSE, 2, bad, None),
                         lambda: least_plan(COURSE, 2, bad), lambda: reason_for(COURSE, 2, bad, None, None),
                         lambda: Copier(2, bad)]:
                with self.assertRaises(BadExtra):
                    call()
        for bad in not_numbers(1, 4):
            for call in [lambda: touched(COURSE, 2, bad), lambda: reason_for(COURSE, 2, 1, bad, None)]:
                with self.assertRaises(BadVersion):
                    call()


class TestCells(unittest.TestCase):
    def test_as_if_copied(self):
        """Good plans, most of them not least: read along every way of up to three fields at every version."""
        for seed in range(40):
            story, wide = drawn(seed, 9, 5)
            heaps = plain_heaps(story, wide)
            extra = seed % 4
            plan = drawn_plan(random.Random(seed), story, wide, extra)
            cells = copy_cells(story, wide, extra, plan)
            self.assertEqual(cells, plain_cells(story, wide, plan))
            for _, _, _, entries in cells:
                self.assertLessEqual(len(entries), extra)
            for version, heap in enumerate(heaps):
                for length in range(4):
                    for way in itertools.product(range(wide), repeat=length):
                        self.check_way(cells, version, way, heap)

    def check_way(self, cells, version, way, heap):
        kind, told = plain_walk(heap, way)
        if kind == "value":
            self.assertEqual(read_cells(cells, version, way), told)
        else:
            with self.assertRaises(NoWay) as caught:
                read_cells(cells, version, way)
            self.assertEqual(caught.exception.at, told)

    def test_by_hand(self):
        cells = copy_cells(story=COURSE, wide=2, extra=2, plan=((), (1,), (), (0,)))
        self.assertEqual(cells, ((0, 0, (None, None), ((1, 0, ("to", 1)), (2, 0, ("to", 2)))), (1, 1, (None, None), ()),
                                 (1, 2, (1, None), ((3, 0, 2),)), (0, 4, (("to", 2), 3), ())))
        self.assertEqual([read_cells(cells, version, (0, 0)) for version in (1, 2, 3, 4)], [None, 1, 2, 2])
        self.assertEqual(read_cells(cells=cells, version=4, way=(0,)), ("to", 1))
        self.assertEqual([read_cells(cells, version, ()) for version in range(5)], [("to", 0)] * 5)

    def test_good_for_so_many_slots(self):
        plan = ((), (1,), (), ())
        self.assertEqual(len(copy_cells(COURSE, 2, 3, plan)), 3)
        with self.assertRaises(BadPlan):
            copy_cells(COURSE, 2, 2, plan)
        self.assertIs(is_good(story=COURSE, wide=2, extra=2, plan=plan), False)

    def test_bad_ways(self):
        cells = copy_cells(COURSE, 2, 3, ((), (1,), (), ()))
        for way in [[0], (2,), (-1,), (True,), (0, "0"), (None,), None, "0", 0, {0: 0}, (0, 0, 0, 2)]:
            with self.assertRaises(BadWay):
                read_cells(cells, 0, way)
        for way, at in [((0, 0), 1), ((0, 0, 1), 1), ((1, 1, 1), 1)]:
            with self.assertRaises(NoWay) as caught:
                read_cells(cells, 0, way)
            self.assertEqual(caught.exception.at, at)


class TestLeastPlan(unittest.TestCase):
    def test_against_the_words(self):
        for seed in range(60):
            story, wide = drawn(seed, 14)
            for extra in (0, 1, 2, 4):
                plan = least_plan(story, wide, extra)
                self.assertEqual(plan, plain_least(story, wide, extra))
                self.assertTrue(is_good(story, wide, extra, plan))

    def test_against_a_search(self):
        """At each version the records that are copied may be, and are among those of every good plan."""
        for seed in range(40):
            story, wide = drawn(seed, 10, 5)
            heaps = plain_heaps(story, wide)
            extra, used = seed % 4, (0,)
            for version, copied in enumerate(least_plan(story, wide, extra), 1):
                told = good_sets(heaps, version, used, extra)
                self.assertIn(copied, told)
                self.assertTrue(all(set(copied) <= set(other) for other in told))
                used = plain_behind(heaps, version, used, copied)

    def test_reasons(self):
        for seed in range(40):
            story, wide = drawn(seed, 12)
            heaps = plain_heaps(story, wide)
            extra = seed % 3
            plan = plain_least(story, wide, extra)
            rows = plain_used(story, wide, plan)
            for version in range(1, len(heaps)):
                for record in range(len(heaps[version])):
                    if record in plan[version - 1]:
                        reason = reason_for(story, wide, extra, version, record)
                        self.check_reason(heaps, version, rows[version - 1], extra, reason, record)
                    else:
                        with self.assertRaises(NotCopied):
                            reason_for(story, wide, extra, version, record)

    def check_reason(self, heaps, version, used, extra, reason, record):
        self.assertIsInstance(reason, tuple)
        self.assertEqual(reason[-1], record)
        self.assertEqual(len(set(reason)), len(reason))
        for at, one in enumerate(reason):
            moved = [pair for pair in plain_moved(heaps, version, reason[:at]) if pair[0] == one]
            self.assertGreater(used[one] + len(moved), extra)

    def test_not_copied(self):
        self.assertEqual(least_plan(story=COURSE, wide=2, extra=1), ((), (), (0, 1), ()))
        self.assertEqual(reason_for(story=COURSE, wide=2, extra=1, version=3, record=1), (1,))
        self.assertEqual(reason_for(COURSE, 2, 1, 3, 0), (1, 0))
        for version, bad in [(3, True), (3, False), (3, 2), (3, None), (3, "1"), (3, (1,)), (3, -1), (2, 1), (4, 0), (1, 0)]:
            with self.assertRaises(NotCopied):
                reason_for(COURSE, 2, 1, version, bad)

    def test_nothing_that_is_passed_is_changed(self):
        story, wide = drawn(5)
        kept = copy.deepcopy(story)
        plan = least_plan(story, wide, 1)
        copy_cells(story, wide, 1, plan)
        used_slots(tuple(story), wide, plan)
        self.assertEqual(story, kept)


class TestCopier(unittest.TestCase):
    def check(self, copier, story, wide, extra):
        heaps = plain_heaps(story, wide)
        plan = plain_least(story, wide, extra)
        self.assertEqual(copier.plan(), plan)
        self.assertEqual(copier.cells(), plain_cells(story, wide, plan))
        self.assertEqual(copier.used(), plain_used(story, wide, plan)[-1])
        for version, heap in enumerate(heaps):
            self.assertEqual(copier.heap(version), heap)
            self.assertEqual(copier.many(version), len(heap))
            for record, row in enumerate(heap):
                self.assertEqual(tuple(copier.read(version, record, field) for field in range(wide)), row)

    def test_against_copies(self):
        for seed in range(25):
            wide, extra = 1 + seed % 3, seed % 4
            rng = random.Random(seed)
            copier, story = Copier(wide, extra), []
            self.assertEqual((copier.wide, copier.extra), (wide, extra))
            self.check(copier, story, wide, extra)
            for version in range(10):
                changes = drawn_deed(rng, plain_heaps(story, wide)[-1], wide, records=5)
                self.assertEqual(copier.deed(version, changes), version + 1)
                story.append((version, changes))
                self.check(copier, story, wide, extra)

    def test_at_first(self):
        copier = Copier(wide=2, extra=60)
        self.assertEqual((copier.plan(), copier.cells(), copier.used()), ((), ((0, 0, (None, None), ()),), (0,)))
        self.assertEqual((copier.heap(version=0), copier.many(version=0)), (((None, None),), 1))
        self.assertIsNone(copier.read(version=0, record=0, field=1))

    def test_refused_deeds_change_nothing(self):
        copier, story = Copier(2, 1), []
        for parent, deed in COURSE:
            copier.deed(version=parent, changes=deed)
            story.append((parent, deed))
        for changes, at in [([("set", 0, 0, 77), ("set", 2, 0, 1)], 1), ([("make", (7, 7)), None], 1), (None, None),
                            ({}, None), ([("set", 0, 2, 1)], 0), ([("make", (1, True))], 0), ("", None)]:
            with self.assertRaises(BadDeed) as caught:
                copier.deed(4, changes)
            self.assertEqual(caught.exception.at, at)
        for version in range(4):
            with self.assertRaises(NotNewest) as caught:
                copier.deed(version, None)
            self.assertEqual(caught.exception.newest, 4)
        for bad in not_numbers(0, 4):
            with self.assertRaises(BadVersion):
                copier.deed(bad, None)
        self.check(copier, story, 2, 1)

    def test_errors(self):
        copier = Copier(2, 1)
        for parent, deed in COURSE:
            copier.deed(parent, deed)
        for bad in not_numbers(0, 4):
            for call in [lambda: copier.heap(bad), lambda: copier.many(bad), lambda: copier.read(bad, None, None)]:
                with self.assertRaises(BadVersion):
                    call()
        for version, most in [(0, 0), (1, 1), (4, 1)]:
            for bad in not_numbers(0, most):
                with self.assertRaises(NoRecord) as caught:
                    copier.read(version, bad, None)
                self.assertIs(caught.exception.record, bad)
        for bad in not_numbers(0, 1):
            with self.assertRaises(BadField):
                copier.read(1, 1, bad)

    def test_what_is_passed_may_be_changed(self):
        copier = Copier(1, 0)
        changes = [("make", (4,)), ("set", 0, 0, ("to", 1))]
        kept = copy.deepcopy(changes)
        copier.deed(0, changes)
        self.assertEqual(changes, kept)
        changes.clear()
        self.check(copier, [(0, kept)], 1, 0)
        for value in odd_values():
            self.assertFalse(copier == value)

    def test_two_thousand_versions(self):
        copier = Copier(1, 3)
        story = []
        for at in range(1999):
            story.append((at, [("set", 0, 0, at), ("make", (("to", 0),))]))
            copier.deed(*story[-1])
        self.assertEqual(copier.many(1999), 2000)
        self.assertEqual(copier.read(1000, 0, 0), 999)
        self.assertEqual(copier.read(1999, 1999, 0), ("to", 0))
        self.assertEqual(copier.plan(), least_plan(story, 1, 3))
        self.assertEqual(copier.cells(), copy_cells(story, 1, 3, copier.plan()))
        heap = plain_copy(((None,),), [change for _, deed in story for change in deed])
        self.assertEqual(copier.heap(1999), heap)

    def test_two_thousand_records(self):
        """Each record leads to the one made ahead of it: a copy goes on through all that are full."""
        made = [("make", (("to", at), 0)) for at in range(1999)]
        story = [(0, made)] + [(at + 1, [("set", 0, 1, at)]) for at in range(4)]
        plan = least_plan(story, 2, 0)
        self.assertEqual(plan[0], ())
        self.assertEqual(plan[1:], (tuple(range(2000)),) * 4)
        self.assertEqual(len(reason_for(story, 2, 0, 3, 1999)), 2000)
        self.assertEqual(used_slots(story, 2, plan)[5], (0,) * 2000)


if __name__ == "__main__":
    unittest.main()
