"""Point [55], FORESTS: weights, prices and copies of shapes whose ways neither part nor lead round."""

import random
import unittest
from fractions import Fraction

from asifcopied.copying import least_plan
from asifcopied.duels import duel_price, is_holding, is_pressing, shape_story
from asifcopied.errors import BadCounts, BadDeep, BadExtra, BadMost, BadShape, NotForest, TooMany
from asifcopied.forests import forest_copies, forest_price, forest_weights, is_forest, tree_shape

from plain import not_numbers
from plain_courses import all_used, drawn_plan
from test_duels import BAD_SHAPES, PAIR

NO_FORESTS = [((0,),), ((1,), (0,)), ((1,), (2,), (0,)), ((), (0, 0)), ((), (), (0, 1)), ((), (0,), (2,)), ((), (2,), (3,), (1,)),
              tuple((at + 1,) for at in range(299)) + ((0,),)]


def drawn_forest(rng, records):
    """A forest, its records in any sequence."""
    ranks = list(range(records))
    rng.shuffle(ranks)
    shape = []
    for record in range(records):
        below = [other for other in range(records) if ranks[other] < ranks[record]]
        shape.append((rng.choice(below),) if below and rng.random() < 0.75 else ())
    return tuple(shape)


def leading(shape, record):
    return [other for other, row in enumerate(shape) if record in row]


def plain_weight(shape, extra, record):
    return (1 + sum(plain_weight(shape, extra, other) for other in leading(shape, record))) / Fraction(extra + 1)


def plain_way(shape, record):
    way = [record]
    while shape[way[-1]]:
        way.append(shape[way[-1]][0])
    return way


class TestForests(unittest.TestCase):
    def test_is_forest(self):
        for shape in [((),), PAIR, ((1,), (2,), ()), ((),) * 300, tuple((at + 1,) for at in range(299)) + ((),)]:
            self.assertIs(is_forest(shape), True)
        for shape in NO_FORESTS:
            self.assertIs(is_forest(shape=shape), False, shape)
        for seed in range(30):
            self.assertIs(is_forest(drawn_forest(random.Random(seed), 1 + seed)), True)

    def test_weights(self):
        for seed in range(40):
            shape, extra = drawn_forest(random.Random(seed), 1 + seed % 9), seed % 4
            den, numbers = forest_weights(shape, extra)
            self.assertEqual(den, (extra + 1) ** max(len(plain_way(shape, record)) for record in range(len(shape))))
            weights = [plain_weight(shape, extra, record) for record in range(len(shape))]
            self.assertEqual([Fraction(number, den) for number in numbers], weights)
            self.assertTrue(isinstance(numbers, tuple) and all(type(number) is int for number in numbers))
            best = max(weights)
            self.assertEqual(forest_price(shape, extra), (best.numerator, best.denominator))
        self.assertEqual(forest_weights(shape=PAIR, extra=1), (4, (3, 2)))
        self.assertEqual(forest_price(shape=PAIR, extra=1), (3, 4))
        self.assertEqual(forest_weights(((),) * 3, 0), (1, (1, 1, 1)))

    def test_copies(self):
        for seed in range(40):
            rng = random.Random(seed)
            shape, extra = drawn_forest(rng, 1 + seed % 7), seed % 4
            counts = tuple(rng.randrange(6) for _ in shape)
            told = forest_copies(shape, extra, counts)
            for record, row in enumerate(shape):
                led = told[row[0]] if row else 0
                self.assertEqual(told[record], (counts[record] + led) // (extra + 1))
            for _ in range(3):
                moves = [record for record, count in enumerate(counts) for _ in range(count)]
                rng.shuffle(moves)
                plan = least_plan(shape_story(shape, moves), 6, extra)
                self.assertEqual(tuple(sum(record + 1 in row for row in plan) for record in range(len(shape))), told)
        self.assertEqual(forest_copies(shape=PAIR, extra=1, counts=(4, 0)), (2, 1))

    def test_no_good_plan_has_fewer(self):
        for seed in range(30):
            rng = random.Random(seed)
            shape, extra = drawn_forest(rng, 2 + seed % 4), seed % 3
            counts = tuple(rng.randrange(7) if not row else 0 for row in shape)
            moves = [record for record, count in enumerate(counts) for _ in range(count)]
            rng.shuffle(moves)
            plan = drawn_plan(rng, shape_story(shape, moves), 6, extra)
            for record, least in enumerate(forest_copies(shape, extra, counts)):
                self.assertGreaterEqual(sum(record + 1 in row for row in plan), least)

    def test_price_is_that_of_the_duel(self):
        for seed in range(30):
            shape, extra = drawn_forest(random.Random(seed), 1 + seed % 4), (1, 2, 0)[seed % 3]
            if (extra + 1) ** len(shape) > 100:
                continue
            self.assertEqual(forest_price(shape, extra), duel_price(shape, extra))
            den, numbers = forest_weights(shape, extra)
            num = max(numbers)
            paper = {used: sum(number * slots for number, slots in zip(numbers, used)) for used in all_used(shape, extra)}
            self.assertTrue(is_holding(shape, extra, (num, den), paper))
            top = numbers.index(num)
            part = [record for record in range(len(shape)) if top in plain_way(shape, record)]
            paper = {used: (sum(numbers[record] * (extra - used[record]) for record in part), top)
                     for used in all_used(shape, extra)}
            self.assertTrue(is_pressing(shape, extra, (num, den), paper))

    def test_tree_shape(self):
        self.assertEqual(tree_shape(most=2, deep=2), ((), (0,), (0,), (1,), (1,), (2,), (2,)))
        self.assertEqual(tree_shape(1, 3), ((), (0,), (1,), (2,)))
        self.assertEqual([tree_shape(most, 0) for most in (1, 17)], [((),), ((),)])
        for most in range(1, 18):
            for deep in range(8):
                many = sum(most ** level for level in range(deep + 1))
                if many > 300:
                    with self.assertRaises(TooMany):
                        tree_shape(most, deep)
                    continue
                shape = tree_shape(most, deep)
                self.assertEqual(shape, tuple(((record - 1) // most,) if record else () for record in range(many)))
                for extra in (most, most + 1):
                    price = sum(Fraction(most ** level, (extra + 1) ** (level + 1)) for level in range(deep + 1))
                    self.assertEqual(forest_price(shape, extra), (price.numerator, price.denominator))
                    self.assertLess(price, Fraction(1, extra + 1 - most))

    def test_errors_in_their_sequence(self):
        calls = [lambda shape, extra: forest_weights(shape, extra), lambda shape, extra: forest_price(shape, extra),
                 lambda shape, extra: forest_copies(shape, extra, None)]
        for bad in BAD_SHAPES:
            for call in calls + [lambda shape, _: is_forest(shape)]:
                with self.assertRaises(BadShape):
                    call(bad, None)
        for bad in NO_FORESTS:
            for call in calls:
                with self.assertRaises(NotForest):
                    call(bad, None)
        for bad in not_numbers(0, 60):
            for call in calls:
                with self.assertRaises(BadExtra):
                    call(PAIR, bad)
        for bad in [None, [1, 1], (1,), (1, 1, 1), (1, -1), (True, 1), (1, None), (1, "1"), 5, (10 ** 18, 1), {0: 1, 1: 1}]:
            with self.assertRaises(BadCounts):
                forest_copies(PAIR, 1, bad)
        for bad in not_numbers(1, 17):
            with self.assertRaises(BadMost):
                tree_shape(bad, None)
        for bad in not_numbers(0, 7):
            with self.assertRaises(BadDeep):
                tree_shape(17, bad)

    def test_long_ways(self):
        shape = ((),) + tuple((at,) for at in range(299))
        den, numbers = forest_weights(shape, 0)
        self.assertEqual((den, numbers[0], numbers[299]), (1, 300, 1))
        self.assertEqual(forest_price(shape, 0), (300, 1))
        self.assertEqual(forest_copies(shape, 0, (5,) + (0,) * 299), (5,) * 300)


if __name__ == "__main__":
    unittest.main()
