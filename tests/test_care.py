"""Points [110] to [112]: cells that do not mind one of the rules of care."""

import random
import unittest

from asifcopied.care import care_rules, first_misread, seen_without, story_without
from asifcopied.cells import Cells
from asifcopied.errors import BadMost, BadRoom, BadRule, BadStory, BadWide, TooPointed

from plain import drawn_story, not_numbers, odd_values, plain_heaps, plain_seen
from plain_care import plain_seen_without

RULES = ("child", "behind", "nearest", "met", "values", "over", "turned", "straddling", "backs")


class TestCare(unittest.TestCase):
    def test_rules(self):
        self.assertEqual(care_rules(), RULES)

    def test_against_a_plain_reading(self):
        """Each rule on drawn stories: what is shown, and the first version that is misread."""
        misread = {}
        for seed in range(250):
            rng = random.Random(seed)
            wide, room, most = 1 + seed % 2, rng.choice([1, 1, 2, 3, 6]), rng.choice([1, 2, 3])
            story = drawn_story(seed, 9, wide, most, records=3)
            seen = [plain_seen(heap) for heap in plain_heaps(story, wide)]
            for rule in RULES + (None,):
                told = seen_without(wide, room, most, rule, story)
                self.assertEqual(told, plain_seen_without(wide, room, most, rule, story), (seed, rule))
                wrong = [version for version in range(10) if told[version] != seen[version]]
                self.assertEqual(first_misread(wide, room, most, rule, story), wrong[0] if wrong else None)
                misread[rule] = misread.get(rule, 0) + (1 if wrong else 0)
        self.assertEqual(misread.pop(None), 0)
        self.assertGreater(min(misread.values()), 5, misread)

    def test_with_all_rules(self):
        """For every room, and also where the story is long: what the plain heaps show, and what Cells show."""
        for seed in range(30):
            wide = 1 + seed % 3
            story = drawn_story(seed, 40, wide, 3, records=6)
            seen = tuple(plain_seen(heap) for heap in plain_heaps(story, wide))
            for room in (1, 2, 5, 12):
                self.assertEqual(seen_without(wide, room, 3, None, story), seen)
                self.assertIsNone(first_misread(wide, room, 3, None, story))
            cells = Cells(wide, 2, 3)
            for parent, deed in story:
                cells.deed(parent, deed)
            self.assertEqual(tuple(cells.shown(version) for version in range(41)), seen)

    def test_story_without(self):
        for rule in RULES:
            wide, room, most, story = story_without(rule)
            self.assertLessEqual(len(story), 6)
            self.assertIsInstance(story, list)
            self.assertIsNotNone(first_misread(wide, room, most, rule, story))
            self.assertIsNone(first_misread(wide, room, most, None, story))
            seen = [plain_seen(heap) for heap in plain_heaps(story, wide)]
            self.assertNotEqual(list(plain_seen_without(wide, room, most, rule, story)), seen)
            story[0][1].append(None)
            story.clear()
            self.assertEqual(len(story_without(rule=rule)[3]), len(story_without(rule)[3]))
            self.assertGreater(len(story_without(rule)[3]), 0)
        for bad in odd_values() + ["Child", "child ", "begin", ("child",)]:
            with self.assertRaises(BadRule):
                story_without(bad)

    def test_by_hand(self):
        story = [(0, []), (0, [("set", 0, 0, 1)])]
        self.assertEqual(seen_without(wide=1, room=9, most=1, without="behind", story=story), (((None,),), ((1,),), ((1,),)))
        self.assertEqual(first_misread(wide=1, room=9, most=1, without="behind", story=story), 1)
        story = [(0, [("set", 0, 0, 1)]), (0, [])]
        self.assertEqual(seen_without(1, 9, 1, "child", story), (((None,),), ((1,),), ((1,),)))
        self.assertEqual(first_misread(1, 9, 1, "child", story), 2)
        self.assertEqual(seen_without(1, 9, 1, "nearest", story), (((None,),), ((1,),), ((1,),)))

    def test_a_record_that_is_not_there(self):
        """Without "child" a cell has no versions behind the first one at which its record is not there."""
        story = [(0, [("make", (5,)), ("set", 0, 0, ("to", 1))]), (0, []), (1, [("set", 1, 0, 6)]), (1, [("set", 1, 0, 7)])]
        for room in (1, 2, 9):
            told = seen_without(1, room, 1, "child", story)
            self.assertEqual(told, plain_seen_without(1, room, 1, "child", story))
            self.assertEqual(told[2], ((("to", 1),), (5,)))

    def test_errors_in_their_sequence(self):
        for call in [seen_without, first_misread]:
            for bad in not_numbers(1, 6):
                with self.assertRaises(BadWide):
                    call(bad, None, None, 5, None)
            for bad in not_numbers(1):
                with self.assertRaises(BadRoom):
                    call(1, bad, None, 5, None)
                with self.assertRaises(BadMost):
                    call(1, 1, bad, 5, None)
            for bad in [value for value in odd_values() if value is not None] + ["Child", "up", ("child",)]:
                with self.assertRaises(BadRule):
                    call(1, 1, 1, bad, None)
            for bad in [None, {}, 5, [(1, [])], [(0, [("set", 0, 1, 0)])], "ab"]:
                for rule in RULES + (None,):
                    with self.assertRaises(BadStory):
                        call(1, 1, 1, rule, bad)
            story = [(0, [("make", (None, None)), ("set", 0, 0, ("to", 1))]), (1, [("set", 0, 1, ("to", 1))]), (9, [])]
            with self.assertRaises(BadStory):
                call(2, 5, 1, None, story)
            for rule in RULES + (None,):
                with self.assertRaises(TooPointed) as caught:
                    call(2, 5, 1, rule, story[:2])
                self.assertEqual(caught.exception.record, 1)
                self.assertEqual(len(seen_without(2, 5, 2, rule, story[:2])), 3)

    def test_what_is_passed_is_not_changed(self):
        for rule in RULES:
            wide, room, most, story = story_without(rule)
            passed = [(parent, list(deed)) for parent, deed in story]
            seen_without(wide, room, most, rule, passed)
            self.assertEqual(passed, story)
            tuples = tuple((parent, tuple(deed)) for parent, deed in story)
            self.assertEqual(seen_without(wide, room, most, rule, tuples), seen_without(wide, room, most, rule, story))


if __name__ == "__main__":
    unittest.main()
