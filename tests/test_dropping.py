"""Points [80] and [81]: what standing versions need, rows that serve, reasons, and questions."""

import itertools
import random
import unittest

from asifcopied.dropping import (are_reasons, is_standing, least_rows, most_reasons, needed, questions, readers, serves)
from asifcopied.errors import BadMany, BadName, BadRows, BadStanding, BadStory, BadWide

from plain import drawn_story, not_numbers, odd_values, plain_heaps, plain_line
from plain_dropping import (parents_in, plain_find, plain_held, plain_names, plain_readers, plain_reasons, plain_rows,
                            plain_serves, plain_ways)

STORY = [(0, [("make", (5,)), ("set", 0, 0, ("to", 1))]), (1, [("set", 1, 0, 6)]), (1, [])]
BAD_STORIES = [None, {}, 5, "ab", [()], [(1, [])], [(0, None)], [(0, [("set", 0, 1, 0)])], [[0, []]]]
BAD_STANDINGS = [None, [], [0], 0, (4,), (-1,), (True,), (False,), (0, 0), (1, 0), (0, None), ("0",), {0: 1}, "01", ((0,),),
                 (10 ** 18,)]


def drawn(seed, versions=8, wide=None):
    """A story, its wide, and some standing versions."""
    rng = random.Random(seed)
    wide = wide or 1 + seed % 3
    story = drawn_story(seed, versions, wide, records=4)
    return rng, story, wide, tuple(version for version in range(versions + 1) if rng.random() < 0.6)


class TestStanding(unittest.TestCase):
    def test_is_standing(self):
        for value in [(), (0,), (3,), (0, 1, 2, 3), (1, 3)]:
            self.assertIs(is_standing(value=value, many=4), True)
        for value in BAD_STANDINGS:
            self.assertIs(is_standing(value, 4), False, value)
        for value in odd_values():
            self.assertIs(is_standing(value, 2), value in [(), (0,)] and type(value) is tuple and True not in map(is_bool, value))
        for bad in not_numbers(1):
            with self.assertRaises(BadMany):
                is_standing((), bad)

    def test_errors_in_their_sequence(self):
        calls = [lambda *told: needed(*told), lambda *told: readers(*told, None), lambda *told: serves(*told, None),
                 lambda *told: least_rows(*told), lambda *told: are_reasons(*told, None), lambda *told: most_reasons(*told),
                 lambda *told: questions(*told)]
        for call in calls:
            for bad in not_numbers(1, 6):
                with self.assertRaises(BadWide):
                    call(None, bad, None)
            for bad in BAD_STORIES:
                with self.assertRaises(BadStory):
                    call(bad, 1, None)
            for bad in BAD_STANDINGS:
                with self.assertRaises(BadStanding):
                    call(STORY, 1, bad)


def is_bool(value):
    return isinstance(value, bool)


class TestNeeded(unittest.TestCase):
    def test_against_plain_heaps(self):
        for seed in range(60):
            _, story, wide, standing = drawn(seed)
            told = plain_readers(story, wide, standing)
            self.assertEqual(needed(story, wide, standing), tuple(sorted(told)))
            for name in told:
                self.assertEqual(readers(story, wide, standing, name), tuple(version for version, _ in told[name]))
        self.assertEqual(needed(story=STORY, wide=1, standing=(2,)), ((0, 0), (1, 0)))
        self.assertEqual(readers(story=STORY, wide=1, standing=(0, 1, 2, 3), name=(1, 0)), (1, 3, 2))

    def test_names_of_no_needed_record(self):
        story = STORY + [(2, [("make", (1,)), ("make", (("to", 2),))])]
        self.assertEqual(needed(story, 1, (4,)), ((0, 0), (1, 0)))
        for bad in odd_values() + [(1, 1), (4, 0), (4, 1), (2, 0), (0, 1), (True, 0), (1, False), [1, 0], (1,), (1, 0, 0), (1, -1)]:
            if bad != (0, 0):
                with self.assertRaises(BadName):
                    readers(story, 1, (4,), bad)
        with self.assertRaises(BadName):
            readers(STORY, 1, (0,), (1, 0))

    def test_nothing_stands(self):
        self.assertEqual((needed(STORY, 1, ()), least_rows(STORY, 1, ()), most_reasons(STORY, 1, ())), ((), (), ()))
        self.assertEqual(questions(STORY, 1, ()), ())
        self.assertIs(serves(STORY, 1, (), ()), True)
        self.assertIs(are_reasons(STORY, 1, (), ()), True)
        self.assertIs(are_reasons(STORY, 1, (), (((0, 0), 0, None, 0),)), False)
        with self.assertRaises(BadName):
            readers(STORY, 1, (), (0, 0))


def bent_rows(rng, story, wide, rows, count):
    """The rows with one thing changed: an entry less, more, moved, with another value, or a row less."""
    line = plain_line(parents_in(story))
    for _ in range(count):
        at = rng.randrange(len(rows))
        name, field, entries = rows[at]
        told = dict(entries)
        kind = rng.choice(["less", "more", "moved", "value", "row"])
        version = rng.choice(list(told))
        if kind in ("less", "moved"):
            held = told.pop(version)
        if kind == "moved":
            told[rng.randrange(len(line))] = held
        if kind == "more":
            told.setdefault(rng.randrange(len(line)), rng.choice([None, 1, ("to", 0), told[version]]))
        if kind == "value":
            told[version] = rng.choice([None, 0, 9, ("to", 0), ("to", 1)])
        entries = tuple((version, told[version]) for version in line if version in told)
        middle = ((name, field, entries),) if entries and kind != "row" else ()
        yield rows[:at] + middle + rows[at + 1:]


class TestRows(unittest.TestCase):
    def test_least_rows(self):
        for seed in range(60):
            _, story, wide, standing = drawn(seed)
            rows = least_rows(story, wide, standing)
            self.assertEqual(rows, plain_rows(story, wide, standing))
            self.assertIs(serves(story, wide, standing, rows), True)
        self.assertEqual(least_rows(story=STORY, wide=1, standing=(0, 1, 2, 3)), (
            ((0, 0), 0, ((0, None), (1, ("to", 1)))), ((1, 0), 0, ((1, 5), (2, 6)))))
        self.assertEqual(least_rows(STORY, 1, (0, 2, 3)), (
            ((0, 0), 0, ((0, None), (3, ("to", 1)))), ((1, 0), 0, ((3, 5), (2, 6)))))
        self.assertEqual(least_rows(STORY, 1, (0, 2)), (
            ((0, 0), 0, ((0, None), (2, ("to", 1)))), ((1, 0), 0, ((2, 6),))))

    def test_bent_rows(self):
        told = {}
        for seed in range(80):
            rng, story, wide, standing = drawn(seed)
            rows = least_rows(story, wide, standing)
            for bent in bent_rows(rng, story, wide, rows, 12 if rows else 0):
                judged = plain_serves(story, wide, standing, bent)
                told[judged] = told.get(judged, 0) + 1
                self.assertIs(serves(story, wide, standing, bent), judged)
        self.assertGreater(min(told[True], told[False]), 50)

    def test_rows_of_what_nobody_reads(self):
        """Rows may speak of any record of the story, and of versions that do not stand; such rows do no harm."""
        story = STORY + [(2, [("make", (1,)), ("make", (("to", 2),))])]
        rows = least_rows(story, 1, (3,))
        self.assertEqual(rows, (((0, 0), 0, ((3, ("to", 1)),)), ((1, 0), 0, ((3, 5),))))
        other = (((0, 0), 0, ((1, ("to", 1)), (2, 7))), ((1, 0), 0, ((0, 3), (1, 5), (3, 5))),
                 ((4, 0), 0, ((2, 7),)), ((4, 1), 0, ((0, ("to", 999)),)))
        self.assertIs(serves(story, 1, (3,), other), True)
        self.assertIs(serves(story, 1, (3,), other[1:]), False)
        self.assertIs(serves(story=story, wide=1, standing=(2,), rows=rows), False)
        self.assertIs(serves(story, 1, (), other), True)

    def test_rows_of_any_form(self):
        good = least_rows(STORY, 1, (0, 1, 2, 3))
        first, second = good
        bad = [list(good), (second, first), (first, first), (((0, 0), 0, ((0, 1),)), ((0, 0), 0, ((1, 1),)), second), good + (second,), (list(first), second), (first[:2], second),
               (first + (0,), second), (((0, 0), 1, first[2]), second), (((0, 0), -1, first[2]), second),
               (((0, 0), False, first[2]), second), (((0, 0), None, first[2]), second), (((0, 1), 0, first[2]), second),
               (((2, 0), 0, first[2]),), (((4, 0), 0, first[2]),), (([0, 0], 0, first[2]), second),
               (((False, 0), 0, first[2]), second), (("00", 0, first[2]), second), ((0, 0, first[2]), second),
               (((0, 0), 0, ()), second), (((0, 0), 0, list(first[2])), second), (((0, 0), 0, ((4, 1),)), second),
               (((0, 0), 0, ((2, 1), (3, 1))), second), (((0, 0), 0, ((1, 1), (1, 1))), second),
               (((0, 0), 0, ((1, True),)), second), (((0, 0), 0, ((True, 1),)), second), (((0, 0), 0, ((1, ("to", -1)),)), second),
               (((0, 0), 0, ((1, "1"),)), second), (((0, 0), 0, ((1, 10 ** 18),)), second), (((0, 0), 0, ([1, 1],)), second),
               (((0, 0), 0, None), second), (None,), ((),), (((0, 0), 0, ((0, None), None)), second)]
        for rows in bad + [value for value in odd_values() if value != ()]:
            with self.assertRaises(BadRows):
                serves(STORY, 1, (0, 1, 2, 3), rows)
        self.assertIs(serves(STORY, 1, (0, 1, 2, 3), ()), False)

    def test_none_with_fewer(self):
        """By a plain search over all rows of one field with fewer entries, at any versions."""
        searched = 0
        for seed in range(25):
            _, story, wide, standing = drawn(seed, versions=4)
            rows = least_rows(story, wide, standing)
            line, held = plain_line(parents_in(story)), plain_held(story, wide, standing)
            for at, (name, field, entries) in enumerate(rows):
                values = sorted({value for _, value in held[name, field]}, key=repr)
                for many in range(len(entries)):
                    for versions in itertools.combinations(line, many):
                        for told in itertools.product(values, repeat=many):
                            other = ((name, field, tuple(zip(versions, told))),) if many else ()
                            searched += 1
                            self.assertFalse(serves(story, wide, standing, rows[:at] + other + rows[at + 1:]))
        self.assertGreater(searched, 900)


class TestReasons(unittest.TestCase):
    def test_as_many_as_entries(self):
        for seed in range(60):
            _, story, wide, standing = drawn(seed)
            rows, reasons = least_rows(story, wide, standing), most_reasons(story, wide, standing)
            self.assertIs(are_reasons(story, wide, standing, reasons), True)
            self.assertTrue(plain_reasons(story, wide, standing, reasons))
            entries = [(name, field, version) for name, field, told in rows for version, _ in told]
            self.assertEqual([(name, field, version) for name, field, _, version in reasons], entries)
            held = plain_held(story, wide, standing)
            for name, field, ahead, version in reasons:
                versions = [reader for reader, _ in held[name, field]]
                at = versions.index(version)
                self.assertEqual(ahead, versions[at - 1] if at else None)
        self.assertEqual(most_reasons(story=STORY, wide=1, standing=(0, 1, 2, 3)), (
            ((0, 0), 0, None, 0), ((0, 0), 0, 0, 1), ((1, 0), 0, None, 1), ((1, 0), 0, 3, 2)))

    def test_rows_that_serve_have_an_entry_for_each(self):
        for seed in range(40):
            rng, story, wide, standing = drawn(seed)
            rows, line = least_rows(story, wide, standing), plain_line(parents_in(story))
            reasons = most_reasons(story, wide, standing)
            for bent in bent_rows(rng, story, wide, rows, 10 if rows else 0):
                if not serves(story, wide, standing, bent):
                    continue
                told, met = {(name, field): entries for name, field, entries in bent}, []
                for name, field, ahead, version in reasons:
                    first = -1 if ahead is None else line.index(ahead)
                    fits = [at for at, _ in told[name, field] if first < line.index(at) <= line.index(version)]
                    met.append((name, field, fits[-1]))
                self.assertEqual(len(set(met)), len(reasons))

    def test_bent_in_one_place(self):
        told = {}
        for seed in range(80):
            rng, story, wide, standing = drawn(seed)
            reasons = most_reasons(story, wide, standing)
            names = sorted(plain_readers(story, wide, standing))
            for _ in range(15 if reasons else 0):
                at = rng.randrange(len(reasons))
                one = list(reasons[at])
                place = rng.randrange(5)
                versions = [None] + list(range(len(story) + 1))
                if place < 4:
                    one[place] = rng.choice([names, range(wide), versions, versions[1:]][place])
                bent = reasons[:at] + ((tuple(one),) if place < 4 else ()) + reasons[at + 1:]
                judged = plain_reasons(story, wide, standing, bent)
                told[judged] = told.get(judged, 0) + 1
                self.assertIs(are_reasons(story, wide, standing, bent), judged)
        self.assertGreater(min(told[True], told[False]), 50)

    def test_by_hand(self):
        every = (0, 1, 2, 3)
        for value in [(), (((1, 0), 0, 1, 2),), (((0, 0), 0, 0, 3), ((1, 0), 0, 1, 2)), (((0, 0), 0, None, 2),),
                      (((0, 0), 0, 0, 2), ((1, 0), 0, None, 3), ((1, 0), 0, 3, 2))]:
            self.assertIs(are_reasons(story=STORY, wide=1, standing=every, value=value), True, value)
        for value in [(((1, 0), 0, 1, 3),), (((1, 0), 0, 2, 3),), (((1, 0), 0, 0, 2),), (((0, 0), 0, 1, 0),), (((0, 0), 0, 0, 0),),
                      (((1, 0), 0, None, 1), ((1, 0), 0, None, 2)), (((0, 0), 0, 0, 1), ((0, 0), 0, 0, 2)),
                      (((1, 0), 0, 1, 2), ((0, 0), 0, 0, 1)), (((0, 0), 0, 0, 1), ((0, 0), 0, 0, 1))]:
            self.assertIs(are_reasons(STORY, 1, every, value), False, value)
        self.assertIs(are_reasons(STORY, 1, (0, 2, 3), (((0, 0), 0, 0, 1),)), False)

    def test_of_any_value(self):
        one = ((0, 0), 0, 0, 1)
        bad = [[one], (list(one),), (one[:3],), (one + (0,),), ((0, 0, 0, 1),), (([0, 0], 0, 0, 1),), (((False, 0), 0, 0, 1),),
               (((0, 0), False, 0, 1),), (((0, 0), 1, 0, 1),), (((0, 0), 0, False, 1),), (((0, 0), 0, 0, True),),
               (((0, 0), 0, 0, None),), (((0, 0), 0, "0", 1),), (((2, 0), 0, None, 2),), (((0, 0), None, 0, 1),), (None,)]
        self.assertIs(are_reasons(STORY, 1, (0, 1, 2, 3), (one,)), True)
        for value in bad + [value for value in odd_values() if value != ()]:
            self.assertIs(are_reasons(STORY, 1, (0, 1, 2, 3), value), False, value)


class TestQuestions(unittest.TestCase):
    def test_shortest_and_least(self):
        for seed in range(60):
            _, story, wide, standing = drawn(seed)
            heaps, names = plain_heaps(story, wide), plain_names(story, wide)
            told = questions(story, wide, standing)
            entries = [(name, field, version) for name, field, row in least_rows(story, wide, standing) for version, _ in row]
            self.assertEqual(len(told), len(entries))
            for (name, field, version), (at, way) in zip(entries, told):
                self.assertEqual(at, version)
                record = names[version].index(name)
                ways = [way for way, end in plain_ways(heaps[version], 4) if end == record]
                self.assertEqual(way, ways[0] + (field,))
        self.assertEqual(questions(story=STORY, wide=1, standing=(0, 1, 2, 3)), ((0, (0,)), (1, (0,)), (1, (0, 0)), (2, (0, 0))))

    def test_told_apart(self):
        """With an entry gone, the way told reads another thing."""
        for seed in range(40):
            _, story, wide, standing = drawn(seed)
            rows = least_rows(story, wide, standing)
            line, names = plain_line(parents_in(story)), plain_names(story, wide)

            def read(rows, version, way):
                told = {(name, field): entries for name, field, entries in rows}
                here = ("to", 0)
                for field in way:
                    if not isinstance(here, tuple):
                        return "nothing"
                    name = names[version][here[1]]
                    here = plain_find(line, told.get((name, field), ()), version)
                return here

            asked = iter(questions(story, wide, standing))
            for at, (name, field, entries) in enumerate(rows):
                for which, (version, value) in enumerate(entries):
                    here, way = next(asked)
                    self.assertEqual(read(rows, here, way), value)
                    less = entries[:which] + entries[which + 1:]
                    bent = rows[:at] + (((name, field, less),) if less else ()) + rows[at + 1:]
                    self.assertNotEqual(read(bent, here, way), value)


class TestLimits(unittest.TestCase):
    def test_a_chain_and_a_row(self):
        """1,200 records one behind another, at 1,200 versions one out of another."""
        many = 1200
        chain = [("make", (record, None)) for record in range(many)]
        links = [("set", record, 1, ("to", record + 1)) for record in range(many)]
        story = [(0, chain + links)] + [(at, [("set", at, 0, -at)]) for at in range(1, many)]
        standing = tuple(range(many + 1))
        self.assertEqual(len(needed(story, 2, standing)), many + 1)
        self.assertEqual(readers(story, 2, standing, (1, many - 1)), standing[1:])
        rows = least_rows(story, 2, standing)
        self.assertEqual(sum(len(entries) for _, _, entries in rows), 2 * (many + 1) + 1 + many - 1)
        self.assertTrue(serves(story, 2, standing, rows))
        self.assertFalse(serves(story, 2, standing, rows[:-1]))
        reasons = most_reasons(story, 2, standing)
        self.assertTrue(are_reasons(story, 2, standing, reasons))
        told = questions(story, 2, (0, 1, many))
        self.assertIn((1, (1,) * many + (0,)), told)


if __name__ == "__main__":
    unittest.main()
