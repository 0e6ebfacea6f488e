"""Points [54] and [55]: what courses pay, rings, duels, papers and prices."""

import itertools
import random
import unittest
from fractions import Fraction

from asifcopied.copying import is_good, least_plan, used_slots
from asifcopied.duels import (adds_up, best_plan, duel_price, fewest, holding, is_holding, is_pressing, is_shape,
                              most_pointed, paid_rows, pressing, ring_moves, ring_shape, shape_story, used_behind)
from asifcopied.errors import (BadCopied, BadCourse, BadExtra, BadMost, BadMoves, BadPrice, BadRecord, BadRounds, BadShape,
                               BadUsed, BadWide, TooMany)

from plain import drawn_story, not_numbers, odd_values, plain_heaps, plain_pointed
from plain_courses import (all_used, drawn_shape, plain_choices, plain_holds, plain_least, plain_pots,
                           plain_presses, plain_touched, plain_turn, plain_used)

PAIR = ((), (0,))
BAD_SHAPES = [(), [], None, ((1,),), ((-1,),), ((True,), ()), ([],), [()], ((0,) * 6,), ((None,),), (("0",),), ((0.0,),),
              ((),) * 301, ((), (0,), None), ((), (2,)), 5, "ab"]


class TestPaid(unittest.TestCase):
    def test_most_pointed(self):
        for seed in range(30):
            wide = 1 + seed % 3
            story = drawn_story(seed, 10, wide, records=4, row=True)
            heaps = plain_heaps(story, wide)
            self.assertEqual(most_pointed(story, wide), max(max(plain_pointed(heap)) for heap in heaps))
        # Within a deed more fields may lead to a record than in the heap behind it.
        story = [(0, [("set", 0, 0, ("to", 0)), ("set", 0, 1, ("to", 0)), ("set", 0, 0, None)])]
        self.assertEqual(most_pointed(story=story, wide=2), 1)
        self.assertEqual(most_pointed([], 2), 0)

    def test_paid_rows_add_up(self):
        for seed in range(60):
            wide, extra = 1 + seed % 3, seed % 6
            story = drawn_story(seed, 14, wide, records=6, row=True)
            rows = paid_rows(story, wide, extra)
            self.assertEqual(rows, self.plain_rows(story, wide, extra))
            most = most_pointed(story, wide)
            self.assertIs(adds_up(extra, most, rows), True)
            copies = sum(row[1] for row in rows)
            self.assertLessEqual((extra + 1 - most) * copies + rows[-1][3], sum(row[0] for row in rows))
        self.assertEqual(paid_rows(story=[], wide=1, extra=0), ())

    def plain_rows(self, story, wide, extra):
        heaps = plain_heaps(story, wide)
        plan = plain_least(story, wide, extra)
        used = plain_used(story, wide, plan)
        rows = []
        for version in range(1, len(heaps)):
            copied, elders = plan[version - 1], len(heaps[version - 1])
            led = sum(1 for row in heaps[version][:elders] for value in row
                      if isinstance(value, tuple) and value[1] in copied)
            rows.append((len(plain_touched(heaps, version)), len(copied), led, sum(used[version])))
        return tuple(rows)

    def test_adds_up(self):
        rows = ((1, 0, 0, 1), (1, 0, 0, 2), (2, 1, 1, 1))
        self.assertTrue(adds_up(extra=3, most=1, value=rows))
        self.assertTrue(adds_up(3, 1, ()))
        self.assertTrue(adds_up(60, 12000, ((1, 1, 60, 0),)))
        self.assertFalse(adds_up(3, 0, rows))
        self.assertFalse(adds_up(4, 1, rows))
        for at, other in [(0, (0, 0, 0, 1)), (0, (1, 0, 0, 2)), (1, (1, 0, 0, 0)), (2, (2, 1, 1, 2)), (2, (1, 1, 1, 1)),
                          (2, (2, 1, 0, 1)), (2, (2, 2, 1, 1)), (2, (3, 1, 2, 1)), (1, (1, 0, 1, 2))]:
            self.assertFalse(adds_up(3, 1, rows[:at] + (other,) + rows[at + 1:]), other)
        for at, other in [(0, (2, 0, 0, 1)), (2, (3, 1, 1, 1)), (2, (2, 0, 0, 4)), (2, (2, 1, 1, 0))]:
            self.assertTrue(adds_up(3, 1, rows[:at] + (other,) + rows[at + 1:]), other)

    def test_adds_up_of_any_value(self):
        odd = [list(((1, 0, 0, 1),)), ([1, 0, 0, 1],), ((1, 0, 0),), ((1, 0, 0, 1, 0),), ((True, 0, 0, 1),),
               ((1, False, 0, 0),), ((1, 0, 0, True),), ((1, 0, 0, -1),), ((-1, 0, 0, 0),), ((1, -1, 0, 0),), ((1, 0, -1, 0),),
               ((10 ** 18, 0, 0, 1),), ((1, 0, 0, None),), (None,), ((1, 0, 0, "1"),)]
        for value in odd + [value for value in odd_values() if value != ()]:
            self.assertIs(adds_up(1, 5, value), False, value)
        for bad in not_numbers(0, 60):
            with self.assertRaises(BadExtra):
                adds_up(bad, None, None)
        for bad in not_numbers(0, 12000):
            with self.assertRaises(BadMost):
                adds_up(1, bad, None)

    def test_errors_in_their_sequence(self):
        for bad in not_numbers(1, 6):
            for call in [lambda: most_pointed(None, bad), lambda: paid_rows(None, bad, None)]:
                with self.assertRaises(BadWide):
                    call()
        for bad in [None, [(0, []), (0, [])], [(1, [])], {}, [(0, [("set", 0, 1, 0)])]]:
            for call in [lambda: most_pointed(bad, 1), lambda: paid_rows(bad, 1, None)]:
                with self.assertRaises(BadCourse):
                    call()
        for bad in not_numbers(0, 60):
            with self.assertRaises(BadExtra):
                paid_rows([], 1, bad)

    def test_two_thousand_versions(self):
        story = [(at, [("set", 0, at % 2, at)]) for at in range(1999)]
        rows = paid_rows(story, 2, 9)
        self.assertEqual(sum(row[1] for row in rows), 199)
        self.assertTrue(adds_up(9, 0, rows))


class TestShapes(unittest.TestCase):
    def test_is_shape(self):
        for shape in [((),), ((0,),), ((0, 0, 0, 0, 0),), PAIR, ((),) * 300, ((1, 2), (0,), (2, 2))]:
            self.assertIs(is_shape(shape), True)
        for value in BAD_SHAPES + [((False,),)] + odd_values():
            self.assertIs(is_shape(value=value), False, value)

    def test_shape_story(self):
        for seed in range(20):
            rng = random.Random(seed)
            shape = drawn_shape(rng, 1 + seed % 5, 5)
            moves = [rng.randrange(len(shape)) for _ in range(seed)]
            story = shape_story(shape, moves)
            self.assertEqual([parent for parent, _ in story], list(range(len(moves) + 1)))
            heaps = plain_heaps(story, 6)
            rows = [(0,) + tuple(("to", other + 1) for other in row) + (None,) * (5 - len(row)) for row in shape]
            self.assertEqual(heaps[1], ((None,) * 6,) + tuple(rows))
            for at, record in enumerate(moves):
                self.assertEqual(story[at + 1], (at + 1, [("set", record + 1, 0, at + 1)]))
        self.assertEqual(shape_story(shape=((1,), (0, 0)), moves=(1,)), [
            (0, [("make", (0,) + (None,) * 5), ("make", (0,) + (None,) * 5), ("set", 1, 1, ("to", 2)),
                 ("set", 2, 1, ("to", 1)), ("set", 2, 2, ("to", 1))]), (1, [("set", 2, 0, 1)])])

    def test_ring(self):
        self.assertEqual(ring_shape(1), ((1,), (0,)))
        self.assertEqual(ring_shape(most=3), ((1, 2, 3), (0, 2, 3), (0, 1, 3), (0, 1, 2)))
        self.assertEqual(ring_moves(2, 3, 4), [0, 0, 0, 1, 1, 2, 0, 0, 1, 1, 2, 2, 0, 0])
        self.assertEqual(ring_moves(most=1, extra=1, rounds=0), [0])
        for most in range(1, 6):
            for extra in range(most, most + 4):
                moves = ring_moves(most, extra, 20)
                story = shape_story(ring_shape(most), moves)
                plan = least_plan(story, 6, extra)
                self.assertEqual(sum(map(len, plan)), 20)
                used = sum(used_slots(story, 6, plan)[-1])
                self.assertEqual((extra + 1 - most) * 20 + used, len(moves))
                self.assertEqual(most_pointed(story, 6), most)
        self.assertEqual(len(ring_moves(5, 60, 200)), sum(60 - record for record in range(6)) + 200 * 56)

    def test_errors(self):
        for bad in BAD_SHAPES:
            for call in [lambda: shape_story(bad, None), lambda: used_behind(bad, None, None, None, None),
                         lambda: fewest(bad, None, None), lambda: best_plan(bad, None, None),
                         lambda: holding(bad, None, None), lambda: pressing(bad, None, None),
                         lambda: is_holding(bad, None, None, None), lambda: is_pressing(bad, None, None, None),
                         lambda: duel_price(bad, None)]:
                with self.assertRaises(BadShape):
                    call()
        for bad in [None, {}, "0", 5, [2], [-1], [True], [0, None], (0, 2), ["0"], [0.0]]:
            for call in [lambda: shape_story(PAIR, bad), lambda: fewest(PAIR, 1, bad), lambda: best_plan(PAIR, 1, bad)]:
                with self.assertRaises(BadMoves):
                    call()
        for bad in not_numbers(1, 5):
            for call in [lambda: ring_shape(bad), lambda: ring_moves(bad, None, None)]:
                with self.assertRaises(BadMost):
                    call()
        for most in (1, 4):
            for bad in not_numbers(most, 60):
                with self.assertRaises(BadExtra):
                    ring_moves(most, bad, None)
        for bad in not_numbers(0, 200):
            with self.assertRaises(BadRounds):
                ring_moves(2, 2, bad)


class TestTurns(unittest.TestCase):
    def test_used_behind(self):
        for seed in range(30):
            rng = random.Random(seed)
            shape, extra = drawn_shape(rng, 1 + seed % 4, 3), seed % 3
            for used in rng.sample(all_used(shape, extra), min(8, (extra + 1) ** len(shape))):
                for record in range(len(shape)):
                    for size in range(len(shape) + 1):
                        for copied in itertools.combinations(range(len(shape)), size):
                            later = plain_turn(shape, used, record, copied)
                            if max(later) <= extra:
                                self.assertEqual(used_behind(shape, extra, used, record, copied), later)
                            else:
                                with self.assertRaises(BadCopied):
                                    used_behind(shape, extra, used, record, copied)
        self.assertEqual(used_behind(shape=((), (0, 0)), extra=2, used=(2, 0), record=0, copied=(0,)), (0, 2))

    def test_as_in_the_story(self):
        """The turns of a duel are those of the slots of the course."""
        for seed in range(20):
            rng = random.Random(seed)
            shape, extra = drawn_shape(rng, 1 + seed % 5, 5), seed % 5
            moves = [rng.randrange(len(shape)) for _ in range(15)]
            story = shape_story(shape, moves)
            plan = least_plan(story, 6, extra)
            rows = used_slots(story, 6, plan)
            used = (0,) * len(shape)
            for at, record in enumerate(moves):
                used = used_behind(shape, extra, used, record, tuple(one - 1 for one in plan[at + 1]))
                self.assertEqual(rows[at + 2], (0,) + used)

    def test_errors(self):
        for bad in not_numbers(0, 60):
            for call in [lambda: used_behind(PAIR, bad, None, None, None), lambda: fewest(PAIR, bad, None),
                         lambda: best_plan(PAIR, bad, None), lambda: holding(PAIR, bad, None),
                         lambda: pressing(PAIR, bad, None), lambda: is_holding(PAIR, bad, None, None),
                         lambda: is_pressing(PAIR, bad, None, None), lambda: duel_price(PAIR, bad)]:
                with self.assertRaises(BadExtra):
                    call()
        for bad in [(0,), (0, 0, 0), [0, 0], (2, 0), (0, -1), (True, 0), (0, None), None, 5, "ab", {0: 0, 1: 0}]:
            with self.assertRaises(BadUsed):
                used_behind(PAIR, 1, bad, None, None)
        for bad in not_numbers(0, 1):
            with self.assertRaises(BadRecord):
                used_behind(PAIR, 1, (0, 0), bad, None)
        for bad in [None, [0], (1, 0), (0, 0), (2,), (-1,), (True,), ("0",), 0, {0: True}, (0, None)]:
            with self.assertRaises(BadCopied):
                used_behind(PAIR, 1, (0, 0), 0, bad)
        for used, record, copied in [((1, 0), 0, ()), ((0, 1), 1, ()), ((0, 1), 0, (0,)), ((1, 1), 1, (0,))]:
            with self.assertRaises(BadCopied):
                used_behind(PAIR, 1, used, record, copied)


class TestFewest(unittest.TestCase):
    def plain_fewest(self, shape, extra, moves):
        """A plain search of all that keepers can do."""
        least = {(0,) * len(shape): 0}
        for record in moves:
            behind = {}
            for used, copies in least.items():
                for copied, later in plain_choices(shape, extra, used, record):
                    behind[later] = min(behind.get(later, 10 ** 6), copies + len(copied))
            least = behind
        return min(least.values())

    def test_against_a_search(self):
        for seed in range(40):
            rng = random.Random(seed)
            shape, extra = drawn_shape(rng, 1 + seed % 4, 3), seed % 3
            moves = [rng.randrange(len(shape)) for _ in range(seed % 13)]
            told = fewest(shape, extra, moves)
            self.assertEqual(told, self.plain_fewest(shape, extra, moves))
            story, plan = shape_story(shape, moves), best_plan(shape, extra, moves)
            self.assertTrue(is_good(story, 6, extra, plan))
            self.assertEqual(sum(map(len, plan)), told)
            self.assertLessEqual(told, sum(map(len, least_plan(story, 6, extra))))

    def test_five_moves_on_great_shapes(self):
        """Shapes of 5 and 6 records, and as many used tuples as may be, against the plain search."""
        chain = tuple((record + 1,) for record in range(4)) + ((),)
        drawn = [(chain, 2, [0, 1, 2, 3, 4]), (chain, 1, [0, 0, 0, 0, 0]), (ring_shape(5), 1, [0, 1, 2, 3, 0])]
        for seed in range(40):
            rng = random.Random(seed)
            many = 5 + seed % 2
            shape = drawn_shape(rng, many, rng.choice([1, 2, 3, 5]))
            told = rng.sample(range(many), 2)
            drawn.append((shape, seed % 3 % 2, [rng.choice(told + list(range(many))) for _ in range(5)]))
        for seed in range(6):
            rng = random.Random(seed)
            drawn.append((drawn_shape(rng, 3, 3), 9, [rng.randrange(3)] * 4 + [0]))
            drawn.append((drawn_shape(rng, 2, 5), 30, [rng.randrange(2) for _ in range(5)]))
        told = {}
        for shape, extra, moves in drawn:
            many = fewest(shape, extra, moves)
            self.assertEqual(many, self.plain_fewest(shape, extra, moves), (shape, extra, moves))
            plan = best_plan(shape, extra, moves)
            self.assertTrue(is_good(shape_story(shape, moves), 6, extra, plan))
            self.assertEqual(sum(map(len, plan)), many)
            told[many] = told.get(many, 0) + 1
        self.assertGreater(len(told), 5)

    def test_many_moves(self):
        """Where it pays to copy more than must be: long rows of moves, against the plain search."""
        better = 0
        for seed in range(30):
            rng = random.Random(seed)
            shape, extra = drawn_shape(rng, 2 + seed % 4, 2), 1
            moves = [rng.randrange(len(shape)) for _ in range(30)]
            told = fewest(shape, extra, moves)
            self.assertEqual(told, self.plain_fewest(shape, extra, moves))
            story, plan = shape_story(shape, moves), best_plan(shape, extra, moves)
            self.assertTrue(is_good(story, 6, extra, plan))
            self.assertEqual(sum(map(len, plan)), told)
            better += told < sum(map(len, least_plan(story, 6, extra)))
        self.assertGreater(better, 2)

    def test_by_hand(self):
        self.assertEqual(fewest(shape=PAIR, extra=1, moves=[0, 1, 1, 0, 1]), 2)
        self.assertEqual(sum(map(len, best_plan(shape=PAIR, extra=1, moves=(0, 1, 1, 0, 1)))), 2)
        self.assertEqual(sum(map(len, least_plan(shape_story(PAIR, [0, 1, 1, 0, 1]), 6, 1))), 3)
        self.assertEqual((fewest(PAIR, 1, []), best_plan(PAIR, 1, [])), (0, ((),)))
        # With one slot the record is copied at each second move.
        self.assertEqual(fewest(((),), 1, [0] * 5), 2)

    def test_too_many(self):
        six, seven = ((),) * 6, ((),) * 7
        for shape, extra in [(seven, 0), (((),) * 300, 0), (six, 3), (((),) * 3, 10), (((),) * 2, 31), (((),) * 4, 5)]:
            for call in [lambda: fewest(shape, extra, [0]), lambda: best_plan(shape, extra, [0]),
                         lambda: holding(shape, extra, (1, 1)), lambda: pressing(shape, extra, (1, 1)),
                         lambda: is_holding(shape, extra, (1, 1), None), lambda: is_pressing(shape, extra, (1, 1), None)]:
                with self.assertRaises(TooMany):
                    call()
            for call in [lambda: fewest(shape, extra, [300]), lambda: best_plan(shape, extra, None)]:
                with self.assertRaises(BadMoves):
                    call()
            for call in [lambda: holding(shape, extra, None), lambda: pressing(shape, extra, None),
                         lambda: is_holding(shape, extra, None, None), lambda: is_pressing(shape, extra, (1, 0), None)]:
                with self.assertRaises(BadPrice):
                    call()
        for shape, extra in [(six, 0), (six, 2), (((),) * 3, 9), (((),) * 2, 30), (((),), 60)]:
            self.assertEqual(fewest(shape, extra, [0] * (extra + 1)), 1)
        for shape, extra in [(seven, 0), (((),) * 5, 2), (((),) * 4, 3), (((),) * 3, 4), (((),) * 2, 10), (six, 2)]:
            with self.assertRaises(TooMany):
                duel_price(shape, extra)
        for shape, extra in [(six, 1), (((),) * 2, 9), (((),) * 3, 3), (((),) * 4, 2), (((),) * 5, 1), (((),), 60)]:
            self.assertEqual(duel_price(shape, extra), (1, extra + 1))
        # 1,000 used tuples are let, and 1,024 are not; papers of neither kind are looked at then.
        self.assertIs(is_holding(((),) * 3, 9, (1, 10), {used: sum(used) for used in all_used(((),) * 3, 9)}), True)
        for extra, records in [(31, 2), (3, 5)]:
            paper = {used: sum(used) for used in all_used(((),) * records, extra)}
            self.assertEqual(len(paper), 1024)
            with self.assertRaises(TooMany):
                is_holding(((),) * records, extra, (1, 1), paper)
            with self.assertRaises(TooMany):
                is_pressing(((),) * records, extra, (0, 1), {used: (0, 0) for used in paper})


class TestPapers(unittest.TestCase):
    def test_least_pots(self):
        for seed in range(24):
            rng = random.Random(seed)
            shape, extra = drawn_shape(rng, 1 + seed % 3, 3), seed // 3 % 3
            num, den = duel_price(shape, extra)
            for price in [(num, den), (rng.randrange(4), 1 + rng.randrange(4)), (2 * num, 2 * den), (7 * num + 1, 7 * den),
                          (max(0, 7 * num - 1), 7 * den)]:
                self.check(shape, extra, price, Fraction(*price) - Fraction(num, den))

    def check(self, shape, extra, price, above):
        paper = holding(shape, extra, price)
        self.assertEqual(paper is None, above < 0)
        self.assertEqual(paper, plain_pots(shape, extra, price, "holding"))
        if paper is not None:
            self.assertTrue(plain_holds(shape, extra, price, paper))
            self.assertIs(is_holding(shape, extra, price, paper), True)
        paper = pressing(shape, extra, price)
        self.assertEqual(paper is None, above > 0)
        pots = plain_pots(shape, extra, price, "pressing")
        self.assertEqual(paper and {used: pot for used, (pot, _) in paper.items()}, pots)
        if paper is not None:
            self.assertTrue(plain_presses(shape, extra, price, paper))
            self.assertIs(is_pressing(shape, extra, price, paper), True)

    def test_bent_papers(self):
        """One pot changed: the judges say what a plain judge says."""
        told = {}
        for seed in range(15):
            rng = random.Random(seed)
            shape, extra = drawn_shape(rng, 1 + seed % 3, 2), 1 + seed % 2
            price = duel_price(shape, extra)
            holds, presses = holding(shape, extra, price), pressing(shape, extra, price)
            for used in holds:
                for more in (-1, 1, 3):
                    if holds[used] + more >= 0:
                        paper = {**holds, used: holds[used] + more}
                        told["holding", plain_holds(shape, extra, price, paper)] = True
                        self.assertIs(is_holding(shape, extra, price, paper), plain_holds(shape, extra, price, paper))
                    if presses[used][0] + more >= 0:
                        paper = {**presses, used: (presses[used][0] + more, presses[used][1])}
                        told["pressing", plain_presses(shape, extra, price, paper)] = True
                        self.assertIs(is_pressing(shape, extra, price, paper), plain_presses(shape, extra, price, paper))
                for record in range(len(shape)):
                    paper = {**presses, used: (presses[used][0], record)}
                    self.assertIs(is_pressing(shape, extra, price, paper), plain_presses(shape, extra, price, paper))
        self.assertEqual(len(told), 4)

    def test_papers_of_great_shapes(self):
        """Shapes of 5 and 6 records: the price, the least pots, and papers bent in one place, against the plain judges."""
        told = {}
        for seed in range(8):
            rng = random.Random(seed)
            shape, extra = drawn_shape(rng, 5 + seed % 2, rng.choice([1, 2, 3])), 1
            num, den = duel_price(shape, extra)
            self.check(shape, extra, (num, den), 0)
            holds, presses = holding(shape, extra, (num, den)), pressing(shape, extra, (num, den))
            for _ in range(8):
                used, more = rng.choice(list(holds)), rng.choice([-1, 1, 2])
                if holds[used] + more >= 0:
                    paper = {**holds, used: holds[used] + more}
                    plain = plain_holds(shape, extra, (num, den), paper)
                    self.assertIs(is_holding(shape, extra, (num, den), paper), plain)
                    told["holding", plain] = True
                paper = {**presses, used: (max(0, presses[used][0] + more), rng.randrange(len(shape)))}
                plain = plain_presses(shape, extra, (num, den), paper)
                self.assertIs(is_pressing(shape, extra, (num, den), paper), plain)
                told["pressing", plain] = True
        self.assertEqual(len(told), 4)

    def test_any_papers(self):
        """Pots that neither rise nor fall with the slots: a judge may not lean on what the least pots are like."""
        told = {}
        for seed in range(300):
            rng = random.Random(seed)
            shape, extra = drawn_shape(rng, 1 + seed % 4, 3), rng.choice([0, 1, 1])
            price = (rng.randrange(1, 4), rng.randrange(1, 4))
            holds = {used: rng.randrange(8) for used in all_used(shape, extra)}
            presses = {used: (rng.randrange(3), rng.randrange(len(shape))) for used in holds}
            plain = plain_holds(shape, extra, price, holds), plain_presses(shape, extra, price, presses)
            self.assertEqual((is_holding(shape, extra, price, holds), is_pressing(shape, extra, price, presses)), plain)
            told["holding", plain[0]] = told["pressing", plain[1]] = True
        self.assertEqual(len(told), 4)

    def test_none_by_their_form(self):
        holds, presses = holding(PAIR, 1, (3, 4)), pressing(PAIR, 1, (3, 4))
        turned = dict(reversed(list(holds.items())))
        self.assertIs(is_holding(shape=PAIR, extra=1, price=(3, 4), value=turned), True)
        self.assertIs(is_pressing(PAIR, 1, (3, 4), dict(reversed(list(presses.items())))), True)
        for paper, judge in [(holds, is_holding), (presses, is_pressing)]:
            worth = paper[0, 0]
            less = {used: paper[used] for used in paper if used != (1, 1)}
            bad = [less, {**paper, (2, 0): worth}, {**paper, None: worth}, {**less, (1, 1, 0): worth}, {**less, "11": worth},
                   {**less, (True, 1): worth}, {**less, (1, True): worth}, list(paper.items()), tuple(paper), {}]
            for value in bad + odd_values():
                self.assertIs(judge(PAIR, 1, (3, 4), value), False, value)
        for pot in [True, False, None, -1, "1", (1,), 10 ** 18]:
            self.assertFalse(is_holding(PAIR, 1, (3, 4), {**holds, (1, 1): pot}))
            self.assertFalse(is_pressing(PAIR, 1, (3, 4), {**presses, (1, 1): (pot, 0)}))
        pot = presses[1, 1][0]
        for worth in [pot, None, (pot,), [pot, 0], (pot, 2), (pot, -1), (pot, True), (pot, None), (pot, 0, 0), (pot, "0")]:
            self.assertFalse(is_pressing(PAIR, 1, (3, 4), {**presses, (1, 1): worth}))

    def test_form_where_any_pots_do(self):
        """Prices at which all pots and records do: what is no number from 0 on, or no record, is refused all the same."""
        holds = {used: 0 for used in all_used(PAIR, 1)}
        presses = {used: (0, 0) for used in all_used(PAIR, 1)}
        for pot in (0, 1, 5):
            self.assertTrue(is_holding(PAIR, 1, (1000, 1), {**holds, (1, 1): pot}))
            self.assertTrue(is_pressing(PAIR, 1, (0, 1), {used: (pot, 1) for used in presses}))
        for pot in [True, False, -1]:
            self.assertFalse(is_holding(PAIR, 1, (1000, 1), {**holds, (1, 1): pot}))
            self.assertFalse(is_holding(PAIR, 1, (1000, 1), {used: pot for used in holds}))
            self.assertFalse(is_pressing(PAIR, 1, (0, 1), {used: (pot, 0) for used in presses}))
        for record in [True, False, -1, 2, 3]:
            self.assertFalse(is_pressing(PAIR, 1, (0, 1), {**presses, (1, 1): (0, record)}))

    def test_bad_prices(self):
        for bad in [None, 1, (1,), [1, 1], (1, 1, 1), (-1, 1), (1, 0), (True, 1), (1, True), (1001, 1), (1, 1001), ("1", 1),
                    (1, None), (10 ** 18, 1), {1: 1, 2: 2}]:
            for call in [lambda: holding(PAIR, 1, bad), lambda: pressing(PAIR, 1, bad),
                         lambda: is_holding(PAIR, 1, bad, None), lambda: is_pressing(PAIR, 1, bad, None)]:
                with self.assertRaises(BadPrice):
                    call()
        self.assertIsNone(holding(shape=PAIR, extra=1, price=(0, 1000)))
        self.assertEqual(holding(PAIR, 1, (1000, 1)), {used: 0 for used in all_used(PAIR, 1)})
        self.assertEqual({pot for pot, _ in pressing(shape=PAIR, extra=1, price=(0, 1)).values()}, {0})
        self.assertIsNone(pressing(PAIR, 1, (1000, 1)))

    def test_sum_of_slots_holds(self):
        """The sum of the used slots is a holding paper for one copy for each extra + 1 - most moves."""
        for seed in range(15):
            shape = drawn_shape(random.Random(seed), 1 + seed % 3, 2)
            most = max(sum(row.count(record) for row in shape) for record in range(len(shape)))
            extra = max(most, seed % 4)
            paper = {used: sum(used) for used in all_used(shape, extra)}
            self.assertTrue(is_holding(shape, extra, (1, extra + 1 - most), paper))

    def test_prices(self):
        self.assertEqual(duel_price(PAIR, 1), (3, 4))
        self.assertEqual(duel_price(shape=ring_shape(1), extra=1), (1, 1))
        self.assertEqual(duel_price(ring_shape(2), 2), (4, 5))
        self.assertEqual([duel_price(((),), extra) for extra in (0, 1, 60)], [(1, 1), (1, 2), (1, 61)])
        self.assertEqual(duel_price(((0,),), 0), (1, 1))
        self.assertEqual(duel_price(((), ()), 9), (1, 10))
        self.assertEqual(duel_price(((), (0,), (1,)), 0), (3, 1))

    def test_just_one_price(self):
        for seed in range(20):
            rng = random.Random(seed)
            shape, extra = drawn_shape(rng, 1 + seed % 3, 4), seed % 3
            num, den = duel_price(shape, extra)
            self.assertEqual(Fraction(num, den), Fraction(num, den))
            self.assertEqual((Fraction(num, den).numerator, Fraction(num, den).denominator), (num, den))
            self.assertIsNotNone(holding(shape, extra, (num, den)))
            self.assertIsNotNone(pressing(shape, extra, (num, den)))

    def test_great_games(self):
        """As many used tuples as are let: papers a little above the price, and none a little below it."""
        ring, tree = ((1,), (2,), (0,)), ((), (0,), (0,), (1,), (1,), (2,))
        for shape, extra, prices in [(ring, 9, [(999, 1000), (1, 9), (112, 1000), (111, 1000), (0, 1)]), (tree, 2, [(1, 1)])]:
            for price in prices:
                paper = holding(shape, extra, price)
                other = pressing(shape, extra, price)
                self.assertTrue(paper is not None or other is not None)
                if paper is not None:
                    self.assertTrue(is_holding(shape, extra, price, paper))
                if other is not None:
                    self.assertTrue(is_pressing(shape, extra, price, other))


if __name__ == "__main__":
    unittest.main()
