"""Points [30] and [31]: labels, their potential, and ledgers."""

import itertools
import random
import unittest

from asifcopied.cells import Cells
from asifcopied.errors import BadBits, BadItem, BadLabels, BadLevel, BadPuts, Full
from asifcopied.labels import Labels, is_ledger, ledger, most_in, potential

from plain import not_numbers, odd_values


class PlainLabels:
    """The words of [30], over a list of the items as they stand and a dict of their labels."""

    def __init__(self, bits):
        self.bits = bits
        self.items = [0]
        self.at = {0: 0}
        self.moved = 0

    def put(self, item):
        place = self.items.index(item)
        one = self.at[item]
        end = self.at[self.items[place + 1]] if place + 1 < len(self.items) else 2 ** self.bits
        fresh = len(self.items)
        row = self.items[:place + 1] + [fresh] + self.items[place + 1:]
        if end > one + 1:
            self.items = row
            self.at[fresh] = (one + end) // 2
            return 0
        for level in range(self.bits + 1):
            first = one - one % 2 ** level
            those = [other for other in row if other == fresh or first <= self.at[other] < first + 2 ** level]
            if len(those) <= most_in(level):
                told = {other: first + k * 2 ** level // len(those) for k, other in enumerate(those)}
                result = len([other for other in those if other != fresh and told[other] != self.at[other]])
                self.items = row
                self.at.update(told)
                self.moved += result
                return result
        raise Full(len(self.items))


def plain_potential(labels):
    """The words of [31]: stretch by stretch."""
    told = [labels.label(item) for item in labels.row()]
    total = 0
    for level in range(labels.bits):
        stretches = {}
        for label in told:
            first = label - label % 2 ** level
            stretches[first] = stretches.get(first, 0) + 1
        half = -(-most_in(level + 1) // 2)
        total += sum(4 * max(0, many - half) for many in stretches.values())
    return total


def writers(rng, many):
    """Rows of puts by writers of several kinds."""
    rows = [[0] * many, list(range(many)), [at // 2 for at in range(many)], [max(0, at - 1) for at in range(many)],
            [rng.randrange(at + 1) for at in range(many)], [at if at < 3 else 3 for at in range(many)]]
    crowd = []
    for at in range(many):
        crowd.append(rng.choice([0, at, crowd[-1] if crowd else 0, rng.randrange(at + 1)]))
    for bits in (3, 5, 8):
        # After some puts anywhere all the others come behind one item, now and then behind its neighbours.
        some = [rng.randrange(at + 1) for at in range(min(many, bits))]
        hot = rng.randrange(len(some) + 1)
        rows.append(some + [rng.choice([hot] * 5 + [rng.randrange(at + 1)]) for at in range(len(some), many)])
    return rows + [crowd]


class TestMostIn(unittest.TestCase):
    def test_bounds(self):
        for level in range(60):
            most = most_in(level)
            self.assertLessEqual(3 ** level * most, 4 ** level)
            self.assertGreater(3 ** level * (most + 1), 4 ** level)
        self.assertEqual([most_in(level) for level in (0, 1, 4, 9)], [1, 1, 3, 13])
        self.assertEqual(most_in(level=5), 4)
        self.assertGreaterEqual(most_in(27), 2000)

    def test_bad_level(self):
        for bad in not_numbers(0, 59):
            with self.assertRaises(BadLevel):
                most_in(bad)


class TestLabels(unittest.TestCase):
    def check(self, labels, plain):
        self.assertEqual(labels.row(), plain.items)
        self.assertEqual([labels.label(item) for item in range(len(labels))],
                         [plain.at[item] for item in range(len(plain.items))])
        self.assertEqual(len(labels), len(plain.items))
        self.assertEqual(labels.moved(), plain.moved)
        told = [labels.label(item) for item in labels.row()]
        self.assertEqual(told, sorted(set(told)))
        self.assertTrue(0 <= told[0] and told[-1] < 2 ** plain.bits)

    def test_the_words(self):
        rng = random.Random(9)
        fell = moved = 0
        for bits in [1, 2, 3, 4, 5, 6, 7, 8, 9, 10, 12, 16, 30, 59]:
            for row in writers(rng, 45):
                labels, plain = Labels(bits), PlainLabels(bits)
                for item in row:
                    result = full = None
                    try:
                        result = plain.put(item)
                    except Full as error:
                        full = error.many
                    if full is None:
                        self.assertEqual(labels.put(item), result)
                        moved += result
                    else:
                        self.assertGreater(len(labels) + 1, most_in(bits))
                        with self.assertRaises(Full) as caught:
                            labels.put(item)
                        self.assertEqual(caught.exception.many, full)
                        fell += 1
                    self.check(labels, plain)
                    if full is not None:
                        break
        self.assertGreater(fell, 20)
        self.assertGreater(moved, 100)

    def test_order(self):
        rng = random.Random(3)
        for row in writers(rng, 25):
            labels = Labels(14)
            for item in row:
                labels.put(item)
            stand = labels.row()
            for at, one in enumerate(stand):
                self.assertEqual(labels.behind(one), (stand + [None])[at + 1])
                for place, other in enumerate(stand):
                    self.assertIs(labels.is_ahead(one, other), at < place)

    def test_by_hand_four(self):
        labels = Labels(4)
        self.assertEqual([labels.put(0) for _ in range(4)], [0, 0, 0, 0])
        self.assertEqual([labels.label(item) for item in range(5)], [0, 8, 4, 2, 1])
        kept = labels.copy()
        with self.assertRaises(Full) as caught:
            labels.put(0)
        self.assertEqual(caught.exception.many, 5)
        self.assertEqual(labels, kept)
        self.assertEqual((labels.row(), labels.moved(), len(labels)), ([0, 4, 3, 2, 1], 0, 5))
        self.assertEqual(labels.put(1), 0)

    def test_by_hand_nine(self):
        labels = Labels(bits=9)
        self.assertEqual([labels.put(item=0) for _ in range(9)], [0] * 9)
        self.assertEqual(len(labels), 10)
        self.assertEqual(labels.put(0), 9)
        self.assertEqual([labels.label(item) for item in labels.row()], [k * 512 // 11 for k in range(11)])
        self.assertEqual([labels.label(item) for item in labels.row()][:4], [0, 46, 93, 139])
        self.assertEqual(labels.row(), [0, 10, 9, 8, 7, 6, 5, 4, 3, 2, 1])
        self.assertEqual(labels.moved(), 9)

    def test_one_bit(self):
        labels = Labels(1)
        self.assertEqual(labels.put(0), 0)
        self.assertEqual([labels.label(0), labels.label(1)], [0, 1])
        for item in (0, 1):
            with self.assertRaises(Full) as caught:
                labels.put(item)
            self.assertEqual(caught.exception.many, 2)

    def test_first_bits_puts_change_none(self):
        rng = random.Random(6)
        for bits in range(1, 60):
            for row in writers(rng, bits):
                labels = Labels(bits)
                self.assertEqual([labels.put(item) for item in row], [0] * bits)
                self.assertEqual(labels.moved(), 0)

    def test_two_thousand_versions(self):
        rng = random.Random(7)
        for row in writers(rng, 1999):
            labels = Labels(27)
            for item in row:
                labels.put(item)
            self.assertEqual(len(labels), 2000)
            self.assertLessEqual(labels.moved(), 4 * 27 * 1999)

    def test_copies(self):
        labels = Labels(9)
        for item in [0] * 9:
            labels.put(item)
        other = labels.copy()
        self.assertIsNot(other, labels)
        self.assertTrue(other == labels)
        self.assertFalse(other != labels)
        row, told = labels.row(), [labels.label(item) for item in range(len(labels))]
        self.assertGreater(other.put(0), 0)
        self.assertFalse(other == labels)
        self.assertTrue(other != labels)
        self.assertEqual(labels.row(), row)
        self.assertEqual([labels.label(item) for item in range(len(labels))], told)
        self.assertEqual((len(labels), len(other), labels.moved(), labels.behind(0)), (10, 11, 0, 9))
        self.assertEqual(labels.put(0), other.moved())
        self.assertTrue(other == labels)
        self.assertEqual(labels.copy().moved(), 9)
        self.assertTrue(labels.copy() == labels)
        labels.row().clear()
        self.assertEqual(labels.row(), other.row())

    def test_equal(self):
        self.assertTrue(Labels(3) == Labels(3))
        self.assertFalse(Labels(3) == Labels(4))
        one, other = Labels(6), Labels(6)
        one.put(0)
        self.assertFalse(one == other)
        other.put(0)
        self.assertTrue(one == other)
        one.put(0)
        other.put(1)
        self.assertFalse(one == other)
        for value in odd_values():
            self.assertFalse(one == value)
            self.assertTrue(one != value)
            self.assertFalse(value == one)
        self.assertTrue(Labels(3) in odd_values())

    def test_equal_if_the_puts_are(self):
        told = []
        for row in itertools.product(*[range(at + 1) for at in range(5)]):
            labels = Labels(10)
            for item in row:
                labels.put(item)
            self.assertFalse(labels in told)
            told.append(labels)

    def test_errors(self):
        for bad in not_numbers(1, 59):
            with self.assertRaises(BadBits):
                Labels(bad)
        labels = Labels(5)
        labels.put(0)
        for bad in not_numbers(0, 1):
            for call in [lambda: labels.put(bad), lambda: labels.label(bad), lambda: labels.behind(bad),
                         lambda: labels.is_ahead(bad, 0), lambda: labels.is_ahead(0, bad)]:
                with self.assertRaises(BadItem):
                    call()
        self.assertEqual((len(labels), labels.row()), (2, [0, 1]))
        self.assertEqual((labels.label(item=1), labels.behind(item=0)), (16, 1))
        self.assertIs(labels.is_ahead(one=0, other=1), True)
        self.assertIs(labels.is_ahead(0, 0), False)


class TestPotential(unittest.TestCase):
    def test_each_put_is_paid_for(self):
        rng = random.Random(11)
        for bits in [1, 2, 4, 6, 8, 10, 12, 17, 24, 40, 59]:
            for row in writers(rng, 60):
                labels = Labels(bits)
                ahead = potential(labels)
                self.assertEqual(ahead, 0)
                for item in row:
                    if len(labels) >= most_in(bits):
                        break
                    moved = labels.put(item)
                    behind = potential(labels)
                    self.assertEqual(behind, plain_potential(labels))
                    self.assertLessEqual(moved + behind, ahead + 4 * bits)
                    ahead = behind

    def test_bad_labels(self):
        for bad in odd_values() + [Cells(1, 1, 1), {}]:
            if not isinstance(bad, Labels):
                with self.assertRaises(BadLabels):
                    potential(bad)
        self.assertEqual(potential(labels=Labels(7)), 0)


class TestLedger(unittest.TestCase):
    puts = [0] * 12

    def test_ledgers(self):
        rng = random.Random(12)
        for bits in [9, 11, 20]:
            for row in writers(rng, most_in(bits) - 1 if bits < 12 else 40):
                told = ledger(bits, row)
                labels = Labels(bits)
                plain = []
                for item in row:
                    moved = labels.put(item)
                    plain.append((moved, plain_potential(labels)))
                self.assertEqual(told, tuple(plain))
                self.assertIs(is_ledger(bits, row, told), True)
                self.assertIs(is_ledger(bits=bits, puts=tuple(row), value=told), True)
        self.assertEqual(ledger(9, self.puts), ledger(bits=9, puts=tuple(self.puts)))
        self.assertGreater(sum(moved for moved, _ in ledger(9, self.puts)), 8)

    def test_empty(self):
        self.assertEqual(ledger(5, []), ())
        self.assertIs(is_ledger(5, [], ()), True)
        self.assertIs(is_ledger(5, (), ((0, 0),)), False)

    def test_wrong_ones(self):
        told = ledger(9, self.puts)
        for at, (moved, stock) in enumerate(told):
            for pair in [(moved + 1, stock), (moved - 1, stock), [moved, stock], (moved,), (moved, stock, 0), None,
                         (moved, None), (None, stock), (moved, -1), (moved, stock + 10 ** 6), (str(moved), stock),
                         (moved, 10 ** 18)]:
                self.assertIs(is_ledger(9, self.puts, told[:at] + (pair,) + told[at + 1:]), False)
            self.assertIs(is_ledger(9, self.puts, told[:at] + told[at + 1:]), False)
            self.assertIs(is_ledger(9, self.puts, told[:at] + told[at:at + 1] + told[at:]), False)
        self.assertIs(is_ledger(9, self.puts, list(told)), False)
        for value in odd_values():
            self.assertIs(is_ledger(9, self.puts, value), False)

    def test_true_is_no_number(self):
        self.assertIs(is_ledger(9, [0], ((0, 0),)), True)
        self.assertIs(is_ledger(9, [0], ((False, 0),)), False)
        self.assertIs(is_ledger(9, [0], ((0, False),)), False)
        self.assertIs(is_ledger(9, [0], ((0, True),)), False)
        told = ledger(4, [0, 0, 1])
        self.assertIs(is_ledger(4, [0, 0, 1], ((0, 1), (0, 1), (0, 1))), True)
        self.assertIs(is_ledger(4, [0, 0, 1], told), True)

    def test_just_the_bound(self):
        # A stock may be any number that adds up: here 36 come with each put, and 9 moves at the tenth one.
        puts = [0] * 10
        moves = [0] * 9 + [9]
        stocks, stock = [], 0
        for moved in moves:
            stock += 36 - moved
            stocks.append(stock)
        good = tuple(zip(moves, stocks))
        self.assertIs(is_ledger(9, puts, good), True)
        for at in range(10):
            more = stocks[:at] + [stocks[at] + 1] + stocks[at + 1:]
            self.assertIs(is_ledger(9, puts, tuple(zip(moves, more))), False)
        self.assertIs(is_ledger(9, puts, tuple((moved, 0) for moved in moves)), True)
        self.assertIs(is_ledger(9, puts, tuple((moved, 36 - moved) for moved in moves)), True)

    def test_errors(self):
        for bad in not_numbers(1, 59):
            for call in [lambda: ledger(bad, None), lambda: is_ledger(bad, None, None)]:
                with self.assertRaises(BadBits):
                    call()
        for puts, at in [(None, None), ("", None), ({}, None), (0, None), ([1], 0), ([0, 2], 1), ([0, -1], 1), ([True], 0),
                         ([False], 0), ([0, True], 1), ([0, 1, None], 2), ([0, 1, 2, 4], 3), ([0, "0"], 1), ([None, 7], 0),
                         ([0] * 30 + [31], 30), ([0, 10 ** 18], 1)]:
            for call in [lambda: ledger(2, puts), lambda: is_ledger(2, puts, None)]:
                with self.assertRaises(BadPuts) as caught:
                    call()
                self.assertEqual(caught.exception.at, at)
        for call in [lambda: ledger(4, [0] * 9), lambda: is_ledger(4, [0] * 9, None)]:
            with self.assertRaises(Full) as caught:
                call()
            self.assertEqual(caught.exception.many, 5)

    def test_bound_in_all(self):
        rng = random.Random(13)
        for row in writers(rng, 200):
            moved = sum(result for result, _ in ledger(23, row))
            self.assertLessEqual(moved, 4 * 23 * 200)


if __name__ == "__main__":
    unittest.main()
