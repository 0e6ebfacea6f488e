"""Points [100] to [102]: contents, a disk, a journal on it, and that each of its rules is needed."""

import copy
import itertools
import random
import unittest

from asifcopied.errors import BadCell, BadContent, BadDisk, BadEvents, BadItems, BadLanded, BadMany, BadRule, Fell
from asifcopied.journal import Disk, Journal, goes_wrong, is_content, wrong_run

from plain import not_numbers, odd_values
from plain_journal import PlainDisk, PlainJournal, plain_goes_wrong

RULES = ("begin", "gap", "head", "life", "turn", "up")
BAD_CONTENTS = [True, False, [], [1], {}, (1, [2]), ((True,),), 10 ** 18, -10 ** 18, ({},), (None, (1, ("a", False))), Disk(), 1.5]
CONTENTS = [None, 0, -7, 10 ** 18 - 1, "", "any text", (), (1,), (None, ("a", (2, ()))), ((((),),),)]


def subsets(many):
    """All ascending tuples of places below many."""
    return [told for size in range(many + 1) for told in itertools.combinations(range(many), size)]


class Spy(Disk):
    """A disk that tells what was done on it."""

    def __init__(self):
        Disk.__init__(self)
        self.done = []

    def write(self, cell, content):
        Disk.write(self, cell, content)
        self.done.append(("write", cell, content))

    def sync(self):
        Disk.sync(self)
        self.done.append(("sync",))


class TestContents(unittest.TestCase):
    def test_is_content(self):
        for value in CONTENTS:
            self.assertIs(is_content(value=value), True, value)
        for value in BAD_CONTENTS:
            self.assertIs(is_content(value), False, value)
        deep = ()
        for _ in range(59):
            deep = (deep,)
        self.assertIs(is_content(deep), True)
        for value in odd_values():
            def fits(value):
                if type(value) is tuple:
                    return all(map(fits, value))
                return value is None or type(value) is str or type(value) is int and abs(value) < 10 ** 18
            self.assertIs(is_content(value), fits(value), value)


class TestDisk(unittest.TestCase):
    def test_against_a_plain_disk(self):
        for seed in range(60):
            rng = random.Random(seed)
            disk, plain = Disk(), PlainDisk()
            for _ in range(40):
                cell, content = rng.randrange(5), rng.choice(CONTENTS)
                kind = rng.choice(["write"] * 4 + ["sync", "cut", "allow"])
                if kind == "write" and plain.left != 0:
                    self.assertIsNone(disk.write(cell, content))
                    plain.write(cell, content)
                elif kind == "sync" and plain.left != 0:
                    self.assertIsNone(disk.sync())
                    plain.sync()
                elif kind == "cut":
                    landed = tuple(at for at in range(len(plain.waits)) if rng.random() < 0.5)
                    self.assertIsNone(disk.cut(landed))
                    plain.cut(landed)
                elif kind == "allow":
                    plain.left = rng.choice([None, 0, 1, 5])
                    disk.allow(plain.left)
                else:
                    for call in [lambda: disk.write(cell, content), disk.sync]:
                        with self.assertRaises(Fell):
                            call()
                self.assertEqual(disk.allowed, plain.left)
                self.assertEqual(disk.waiting(), tuple(cell for cell, _ in plain.waits))
                self.assertEqual(list(disk.cells().items()), sorted(plain.landed.items()))
                for cell in range(6):
                    self.assertEqual(disk.read(cell), plain.read(cell))

    def test_cut(self):
        disk = Disk()
        self.assertEqual((disk.allowed, disk.waiting(), disk.cells(), disk.read(7)), (None, (), {}, None))
        disk.write(cell=9, content="a")
        disk.write(2, "b")
        disk.write(9, "c")
        self.assertEqual((disk.waiting(), disk.read(cell=9), disk.cells()), ((9, 2, 9), "c", {}))
        for bad in [None, [], [0], (3,), (-1,), (1, 0), (0, 0), (True,), (False,), (0, None), "01", 0, {0: 1}, ((0,),), (10 ** 18,)]:
            with self.assertRaises(BadLanded):
                disk.cut(bad)
        self.assertEqual(disk.waiting(), (9, 2, 9))
        disk.allow(0)
        disk.cut(landed=(0, 1))
        self.assertEqual((disk.allowed, disk.waiting(), disk.read(9), list(disk.cells())), (None, (), "a", [2, 9]))
        disk.cells().clear()
        self.assertEqual(disk.cells(), {2: "b", 9: "a"})

    def test_allow(self):
        disk = Disk()
        disk.allow(many=2)
        disk.write(0, 1)
        self.assertEqual(disk.allowed, 1)
        # What has another error is no write, and spends nothing.
        with self.assertRaises(BadCell):
            disk.write(-1, 1)
        with self.assertRaises(BadContent):
            disk.write(0, True)
        self.assertEqual(disk.allowed, 1)
        disk.sync()
        self.assertEqual((disk.allowed, disk.cells()), (0, {0: 1}))
        for bad, error in [(-1, BadCell), (None, BadCell), (True, BadCell)]:
            with self.assertRaises(error):
                disk.write(bad, None)
        with self.assertRaises(BadContent):
            disk.write(0, [])
        with self.assertRaises(Fell):
            disk.write(0, 2)
        with self.assertRaises(Fell):
            disk.sync()
        self.assertEqual((disk.waiting(), disk.read(0)), ((), 1))
        disk.allow(None)
        disk.write(0, 3)
        for bad in not_numbers(0):
            if bad is not None:
                with self.assertRaises(BadMany):
                    disk.allow(bad)
        self.assertIsNone(disk.allowed)

    def test_errors(self):
        disk = Disk()
        for bad in not_numbers(0):
            for call in [lambda: disk.write(bad, True), lambda: disk.read(bad)]:
                with self.assertRaises(BadCell):
                    call()
        for bad in BAD_CONTENTS:
            with self.assertRaises(BadContent):
                disk.write(10 ** 18 - 1, bad)
        for value in odd_values():
            self.assertFalse(disk == value)


class TestJournal(unittest.TestCase):
    def turn(self, rng, journal, plain, fresh):
        """One act of a journal and of the plain one."""
        kind = rng.choice(["log"] * 4 + ["sync", "compact"])
        if kind == "log":
            content = rng.choice(CONTENTS + [fresh] * 5)
            journal.log(content)
            plain.log(content)
        elif kind == "sync":
            self.assertIsNone(journal.sync())
            plain.sync()
        else:
            items = rng.choice([list(plain.line()), [], [fresh, ("x",)], plain.line()[1:]])
            self.assertIsNone(journal.compact(items))
            plain.compact(items)

    def same(self, journal, plain, disk):
        self.assertEqual((journal.base(), journal.logs(), journal.line()), (tuple(plain.items), tuple(plain.logs), plain.line()))
        self.assertEqual(journal.head(), (plain.turn, plain.many, plain.life))
        self.assertEqual(disk.done, plain.disk.acts)
        self.assertEqual(disk.waiting(), tuple(cell for cell, _ in plain.disk.waits))
        self.assertEqual(disk.cells(), plain.disk.landed)

    def test_write_by_write(self):
        """Which cell, which content, in which sequence; with each rule left out as well."""
        for leave in (None,) + RULES:
            for seed in range(60):
                rng = random.Random(seed)
                disk, plain_disk = Spy(), PlainDisk()
                journal, plain = Journal(disk, leave), PlainJournal(plain_disk, leave)
                for step in range(25):
                    self.same(journal, plain, disk)
                    if rng.random() < 0.3:
                        if rng.random() < 0.7:
                            landed = tuple(at for at in range(len(plain_disk.waits)) if rng.random() < 0.5)
                            disk.cut(landed)
                            plain_disk.cut(landed)
                        journal, plain = Journal(disk, leave), PlainJournal(plain_disk, leave)
                    else:
                        self.turn(rng, journal, plain, "log" + str(step))

    def test_by_hand(self):
        disk = Spy()
        journal = Journal(disk=disk)
        self.assertEqual((disk.done, journal.line(), journal.head()), ([("write", 1, (0, 1)), ("sync",)], (), (0, 0, 1)))
        journal.log(content="a")
        journal.log(("b", 1))
        self.assertEqual(disk.done[2:], [("write", 3, (0, 1, "a")), ("write", 5, (0, 1, ("b", 1)))])
        self.assertEqual((disk.waiting(), journal.base(), journal.logs()), ((3, 5), (), ("a", ("b", 1))))
        journal.compact(items=["c", None])
        self.assertEqual(disk.done[4:], [("sync",), ("write", 2, (1, 1, "c")), ("write", 4, (1, 1, None)), ("sync",),
                                         ("write", 0, (1, 2, 1))])
        self.assertEqual((disk.waiting(), journal.head(), journal.base(), journal.logs()), ((0,), (1, 2, 1), ("c", None), ()))
        journal.log("d")
        self.assertEqual(disk.done[-1], ("write", 6, (1, 1, "d")))
        # The head does not land, the row behind it does: the whole line that there was ahead of the compact.
        other = copy.deepcopy(disk)
        other.cut((1,))
        self.assertEqual(Journal(other).line(), ("a", ("b", 1)))
        disk.cut((0, 1))
        journal = Journal(disk)
        self.assertEqual((journal.line(), journal.head()), (("c", None, "d"), (1, 2, 2)))
        self.assertEqual(disk.done[-2:], [("write", 8, (1, 2)), ("sync",)])
        journal.compact(())
        self.assertEqual((journal.line(), journal.head(), disk.waiting()), ((), (2, 0, 2), (0,)))
        journal.log("e")
        self.assertEqual(disk.done[-1], ("write", 1, (2, 2, "e")))

    def test_with_b(self):
        disk = Disk()
        Journal(disk).log("b")
        disk.allow(1)
        with self.assertRaises(Fell):
            Journal(disk)
        disk.cut(())
        self.assertEqual(Journal(disk).line(), ("b",))

    def test_what_was_lost_is_not_read(self):
        disk = Disk()
        journal = Journal(disk)
        for content in "abc":
            journal.log(content)
        disk.cut((0, 2))
        journal = Journal(disk)
        self.assertEqual(journal.line(), ("a",))
        # "c" is on the disk still, in the row behind the next one: it does not come again.
        journal.log("d")
        journal.sync()
        disk.cut(())
        self.assertEqual(Journal(disk).line(), ("a", "d"))

    def test_errors(self):
        for bad in odd_values() + [PlainDisk(), Disk]:
            with self.assertRaises(BadDisk):
                Journal(bad, "none")
        disk = Disk()
        for bad in [value for value in odd_values() if value is not None] + ["Begin", "up ", ("up",), "beginning"]:
            with self.assertRaises(BadRule):
                Journal(disk, bad)
        self.assertEqual((disk.waiting(), disk.cells()), ((), {}))
        journal = Journal(disk, leave=None)
        before = disk.cells()
        for bad in BAD_CONTENTS:
            with self.assertRaises(BadContent):
                journal.log(bad)
            for items in [[bad], ["a", bad], (bad,)]:
                with self.assertRaises(BadItems):
                    journal.compact(items)
        for bad in [None, 5, "ab", {}, {"a": 1}, True]:
            with self.assertRaises(BadItems):
                journal.compact(bad)
        self.assertEqual((disk.waiting(), disk.cells(), journal.line()), ((), before, ()))
        disk.allow(0)
        with self.assertRaises(BadContent):
            journal.log([])
        with self.assertRaises(BadItems):
            journal.compact(None)
        for call in [lambda: journal.log(1), journal.sync, lambda: journal.compact([])]:
            with self.assertRaises(Fell):
                call()

    def test_what_is_passed_may_be_changed(self):
        journal, items = Journal(Disk()), ["a", ("b",)]
        journal.compact(items)
        items.append("c")
        self.assertEqual(journal.line(), ("a", ("b",)))


class TestGuarantees(unittest.TestCase):
    """Journals without leave: whatever is cut, a beginning of the line comes up."""

    def acted(self, acts):
        """A disk with a journal that did these acts, and how many contents are sure; and the line ahead of a waiting head."""
        disk = Disk()
        journal, sure, ahead = Journal(disk), 0, None
        for act in acts:
            if act == "sync":
                journal.sync()
                sure, ahead = len(journal.line()), None
            elif act == "compact":
                ahead = journal.line()
                journal.compact(list(ahead))
                sure = len(ahead)
            elif act == "less":
                ahead = journal.line()
                journal.compact([("all of", ahead)])
                sure = 1
            else:
                journal.log(act)
        return disk, journal, sure, ahead

    def test_every_cut_of_small_runs(self):
        for acts in [["a", "b", "c"], ["a", "sync", "b", "c"], ["a", "compact", "b", "c"], ["a", "b", "less", "c", "d"],
                     ["less", "a", "sync", "b"], ["a", "compact", "compact", "b"], ["a", "less", "b", "sync", "c", "less", "d"]]:
            disk, journal, sure, ahead = self.acted(acts)
            line, waits = journal.line(), disk.waiting()
            for landed in subsets(len(waits)):
                other = copy.deepcopy(disk)
                other.cut(landed)
                again = Journal(other)
                told = again.line()
                if ahead is not None and waits.index(0) not in landed:
                    self.assertEqual(told, ahead)
                else:
                    self.assertEqual(told, line[:len(told)])
                    self.assertGreaterEqual(len(told), sure)
                self.goes_on(other, again, told)

    def goes_on(self, disk, journal, line):
        """What was lost never comes again: new logs come right behind what came up."""
        once_more = Journal(copy.deepcopy(disk))
        self.assertEqual((once_more.base(), once_more.logs()), (journal.base(), journal.logs()))
        for content in ("new", "newer"):
            journal.log(content)
        for landed in subsets(2):
            other = copy.deepcopy(disk)
            other.cut(landed)
            told = Journal(other).line()
            self.assertEqual(told, (line + ("new", "newer"))[:len(told)])
            self.assertGreaterEqual(len(told), len(line))

    def test_fell_in_the_midst_of_compact(self):
        for acts in [["a", "b"], ["a", "sync", "b"], ["a", "less", "b"], ["a", "compact", "b", "sync"]]:
            for many in range(9):
                disk, journal, sure, ahead = self.acted(acts)
                line = journal.line()
                head_waited = ahead is not None and "sync" not in acts[2:]
                disk.allow(many)
                try:
                    journal.compact([("all of", line), "more"])
                    fell = False
                except Fell:
                    fell = True
                self.assertEqual(fell, many < 5)
                # Without a cut the whole line is there.
                straight = copy.deepcopy(disk)
                straight.allow(None)
                self.assertEqual(Journal(straight).line(), line if fell else (("all of", line), "more"))
                for landed in subsets(len(disk.waiting())):
                    other = copy.deepcopy(disk)
                    other.cut(landed)
                    told = Journal(other).line()
                    if not fell:
                        self.assertEqual(told, (("all of", line), "more") if landed else line)
                    elif head_waited and many == 0 and 0 not in landed:
                        self.assertEqual(told, ahead)
                    else:
                        self.assertEqual(told, line[:len(told)])
                        self.assertGreaterEqual(len(told), sure if many == 0 else len(line))

    def test_fell_when_it_comes_up(self):
        for acts in [["a", "b"], ["a", "sync", "b"], ["a", "compact", "b"], []]:
            for many in range(4):
                disk, journal, sure, ahead = self.acted(acts)
                line, waited = journal.line(), len(disk.waiting()) > 0
                disk.allow(many)
                try:
                    self.assertEqual(Journal(disk).line(), line)
                    fell = False
                except Fell:
                    fell = True
                self.assertEqual(fell, many < 2 + waited)
                straight = copy.deepcopy(disk)
                straight.allow(None)
                self.assertEqual(Journal(straight).line(), line)
                for landed in subsets(len(disk.waiting())):
                    other = copy.deepcopy(disk)
                    other.cut(landed)
                    told = Journal(other).line()
                    if waited and many == 0:
                        self.assertEqual(told, line[:len(told)])
                        self.assertGreaterEqual(len(told), sure)
                    else:
                        # What waited was synced: all of it is there.
                        self.assertEqual(told, line)

    def test_two_journals(self):
        """One behind another, with and without a cut between them, drawn runs."""
        for seed in range(120):
            rng = random.Random(seed)
            disk = Disk()
            journal, sure, ahead = Journal(disk), 0, None
            for step in range(40):
                kind = rng.choice(["log"] * 5 + ["sync", "compact", "cut", "again", "fall"])
                line = journal.line()
                if kind == "log":
                    journal.log(step)
                elif kind == "sync":
                    journal.sync()
                    sure, ahead = len(line), None
                elif kind == "compact":
                    journal.compact(list(line))
                    sure = len(line)
                elif kind == "again":
                    journal = Journal(disk)
                    self.assertEqual(journal.line(), line)
                    sure = len(line)
                else:
                    if kind == "fall":
                        disk.allow(rng.randrange(4))
                        try:
                            journal.compact(list(line))
                            sure = len(line)
                        except Fell:
                            pass
                        disk.allow(None)
                    landed = tuple(at for at in range(len(disk.waiting())) if rng.random() < 0.5)
                    disk.cut(landed)
                    journal = Journal(disk)
                    told = journal.line()
                    self.assertEqual(told, line[:len(told)])
                    self.assertGreaterEqual(len(told), sure)
                    sure = len(told)
            self.assertIsNone(ahead)


def drawn_events(rng, many, leave=None):
    """Events that can be done by a journal with this leave: a plain journal tells what waits."""
    events = []
    while len(events) < many:
        event = rng.choice([("log", rng.choice("ab")), ("log", rng.choice("ab")), ("sync",), ("compact", None),
                            ("compact", rng.choice([None, 0, 1, 2, 3, 4])), ("cut", rng.choice(subsets(3)))])
        if isinstance(plain_goes_wrong(events + [event], leave), bool):
            events.append(event)
    return events


class TestRules(unittest.TestCase):
    def test_goes_wrong(self):
        """Drawn events with each rule left out, against the plain journal; with None never."""
        for leave in RULES:
            told = {True: 0, False: 0}
            for seed in range(250):
                events = drawn_events(random.Random(seed), seed % 25, leave)
                wrong = plain_goes_wrong(events, leave)
                self.assertIs(goes_wrong(tuple(events), leave), wrong)
                told[wrong] += 1
            self.assertGreater(min(told.values()), 0, (leave, told))

    def test_never_with_all_rules(self):
        """Nor with the places of what cannot be done told otherwise, whatever is left out."""
        for seed in range(200):
            events = drawn_events(random.Random(seed), seed % 25)
            self.assertIs(goes_wrong(events, None), False)
            for leave in RULES:
                told = plain_goes_wrong(events, leave)
                if not isinstance(told, bool):
                    with self.assertRaises(BadEvents) as caught:
                        goes_wrong(events, leave)
                    self.assertEqual((caught.exception.at,), told)

    def test_wrong_runs(self):
        for rule in RULES:
            events = wrong_run(rule=rule)
            self.assertIsInstance(events, tuple)
            self.assertEqual(len(events), 3 if rule in ("begin", "gap", "up") else 4)
            self.assertIs(goes_wrong(events=events, leave=rule), True)
            self.assertIs(plain_goes_wrong(events, rule), True)
        for bad in odd_values() + ["Up", "child", ("up",), "up "]:
            with self.assertRaises(BadRule):
                wrong_run(bad)

    def test_no_shorter_run(self):
        """By a plain search: all events with few contents, fewer than those of wrong_run."""
        for rule in RULES:
            most = len(wrong_run(rule)) - 1
            rows, searched = [[]], 0
            for _ in range(most):
                behind = []
                for events in rows:
                    for event in self.events_behind(events, rule):
                        told = plain_goes_wrong(events + [event], rule)
                        if isinstance(told, bool):
                            searched += 1
                            self.assertIs(told, False, (rule, events, event))
                            behind.append(events + [event])
                rows = behind
            self.assertGreater(searched, 50)

    def events_behind(self, events, rule):
        told = [("log", "a"), ("log", "b"), ("sync",), ("compact", None)] + [("compact", many) for many in range(5)]
        return told + [("cut", landed) for landed in subsets(5)]

    def test_cut_that_cannot_be_done_behind_a_wrong_one(self):
        events = list(wrong_run("gap"))
        with self.assertRaises(BadEvents) as caught:
            goes_wrong(events + [("sync", 1)], "gap")
        self.assertEqual(caught.exception.at, 3)
        self.assertIs(goes_wrong(events + [("sync",), ("cut", ())], "gap"), True)

    def test_errors_in_their_sequence(self):
        for bad in [None, 5, {}, "ab", True, {("sync",): 1}]:
            with self.assertRaises(BadEvents) as caught:
                goes_wrong(bad, "none")
            self.assertIsNone(caught.exception.at)
        for bad in [value for value in odd_values() if value is not None] + ["Up", ("up",)]:
            with self.assertRaises(BadRule):
                goes_wrong([None], bad)
        no_events = odd_values() + [
            ("log",), ("log", True), ("log", []), ("log", 1, 2), ["log", 1], ("Log", 1), ("sync", None), ["sync"], ("sync", 1),
            ("compact",), ("compact", -1), ("compact", True), ("compact", "1"), ("compact", 10 ** 18), ("compact", None, 1), ("cut",),
            ("cut", None), ("cut", [0]), ("cut", (1,)), ("cut", (0, 0)), ("cut", (-1,)), ("cut", (True,)), ("cut", (False,)),
            ("cut", ("0",)), ("cut", (0,), 1), (None, 1), (("log",), 1), "sync", ("up", 1)]
        for value in no_events:
            with self.assertRaises(BadEvents) as caught:
                goes_wrong([("log", 1), value], None)
            self.assertEqual(caught.exception.at, 1, value)
        for value in [("log", 1), ("sync",), ("compact", None)]:
            with self.assertRaises(BadEvents) as caught:
                goes_wrong([("log", 1), ("compact", 1), value], None)
            self.assertEqual(caught.exception.at, 2)
            self.assertIs(goes_wrong([("log", 1), ("compact", 1), ("cut", ()), value], None), False)
        self.assertIs(goes_wrong([], "up"), False)


if __name__ == "__main__":
    unittest.main()
