"""Points [32] and [33]: any way of keeping labels."""

import functools
import itertools
import unittest

from asifcopied.errors import BadItems, BadLater, BadLeft, BadMany, BadPlace, BadPrice, BadState
from asifcopied.moves import forcing, gap_behind, halfway, is_forcing, is_keeping, is_state, keeping, least_price
from asifcopied.moves import price_between, tight_place

from plain import GREATEST, not_numbers, odd_values

STATES = ["1", None, [0, 2], (), (2, 0), (1, 1), (0, 4), (-1, 1), (0, True), (False, 2), (0, "2"), (0, None), 0, {0: 2},
          (0, (2,)), (0, 10 ** 18)]


def plain_price(state, place, later):
    labels = list(state)
    labels.insert(place + 1, None)
    return sum(1 for one, other in zip(labels, later) if one is not None and one != other)


def states(many, size):
    return list(itertools.combinations(range(many), size))


def search(many, items):
    """What the keeper pays at least: the keeper chooses the least, the writer the most."""
    @functools.lru_cache(None)
    def paid(state):
        if len(state) == items:
            return 0
        return max(min(plain_price(state, place, later) + paid(later) for later in states(many, len(state) + 1))
                   for place in range(len(state)))
    return min(paid(state) for state in states(many, 1))


GAMES = [(many, items) for many in range(1, 6) for items in range(1, many + 1)]


class TestStates(unittest.TestCase):
    def test_is_state(self):
        for many in range(1, 5):
            for size in range(0, 4):
                for row in itertools.product(range(-1, 5), repeat=size):
                    plain = row in states(many, size) and size > 0
                    self.assertIs(is_state(row, many), plain)
        for value in STATES:
            self.assertIs(is_state(value, 4), False, value)
        self.assertIs(is_state(value=(0, 2), many=4), True)
        self.assertIs(is_state((GREATEST - 1,), GREATEST), True)
        for value in odd_values():
            self.assertIs(is_state(value, 4), value == (0,), value)

    def test_price_between(self):
        for size in (1, 2, 3):
            for state in states(5, size):
                for place in range(size):
                    for later in states(5, size + 1):
                        self.assertEqual(price_between(5, state, place, later), plain_price(state, place, later))
        self.assertEqual(price_between(many=4, state=(0, 1), place=0, later=(0, 1, 2)), 1)
        self.assertEqual(price_between(4, (0, 1), 1, (0, 1, 2)), 0)
        self.assertEqual(price_between(4, (0, 1), 0, (1, 2, 3)), 2)

    def test_gap_behind(self):
        for size in (1, 2, 3):
            for state in states(6, size):
                for place in range(size):
                    end = (state + (6,))[place + 1]
                    self.assertEqual(gap_behind(6, state, place), len(range(state[place] + 1, end)))
        self.assertEqual(gap_behind(many=9, state=(2,), place=0), 6)

    def test_halfway(self):
        for size in (1, 2, 3):
            for state in states(7, size):
                for place in range(size):
                    later = halfway(7, state, place)
                    free = gap_behind(7, state, place)
                    if free == 0:
                        self.assertIsNone(later)
                        continue
                    self.assertTrue(is_state(later, 7))
                    self.assertEqual(price_between(7, state, place, later), 0)
                    self.assertEqual(later[place + 1] - state[place], (free + 1) // 2)
        self.assertEqual(halfway(many=8, state=(0,), place=0), (0, 4))

    def test_tight_place(self):
        for size in (1, 2, 3):
            for state in states(8, size):
                for left in range(0, 5):
                    tight = [at for at in range(size) if gap_behind(8, state, at) < 2 ** left - 1]
                    self.assertEqual(tight_place(8, state, left), tight[0] if tight else None)
        self.assertEqual(tight_place(many=4, state=(0, 2), left=2), 0)
        self.assertIsNone(tight_place(2 ** 59, (0,), 59))
        self.assertEqual(tight_place(2 ** 59 - 1, (0,), 59), 0)

    def test_by_hand(self):
        self.assertEqual([gap_behind(4, (0, 2), place) for place in (0, 1)], [1, 1])
        self.assertIsNone(tight_place(4, (0, 2), 1))
        self.assertEqual(tight_place(4, (0, 2), 2), 0)
        self.assertEqual(halfway(4, (0, 2), 0), (0, 1, 2))
        self.assertIsNone(halfway(4, (0, 1, 2), 0))
        self.assertEqual(least_price(3, 3), 1)

    def test_no_move_if_not_tight(self):
        for state in states(8, 1) + states(8, 2):
            for left in range(4):
                rows = [state]
                free = True
                for _ in range(left):
                    later = [halfway(8, row, place) for row in rows for place in range(len(row))]
                    free = free and None not in later
                    rows = [row for row in later if row is not None]
                self.assertIs(free, tight_place(8, state, left) is None)

    def test_no_keeper_does_better(self):
        """So many puts need no move, whatever free labels are taken, exactly if no place is tight for them."""
        @functools.lru_cache(None)
        def goes(many, state, left):
            if left == 0:
                return True
            laters = states(many, len(state) + 1)
            return all(any(plain_price(state, place, later) == 0 and goes(many, later, left - 1) for later in laters)
                       for place in range(len(state)))
        for many in range(1, 9):
            for state in states(many, 1) + states(many, 2):
                for left in range(4):
                    self.assertIs(goes(many, state, left), tight_place(many, state, left) is None)

    def test_errors(self):
        for bad in not_numbers(1):
            for call in [lambda: is_state(None, bad), lambda: price_between(bad, None, None, None),
                         lambda: gap_behind(bad, None, None), lambda: tight_place(bad, None, None),
                         lambda: halfway(bad, None, None)]:
                with self.assertRaises(BadMany):
                    call()
        for bad in STATES:
            for call in [lambda: price_between(4, bad, None, None), lambda: gap_behind(4, bad, None),
                         lambda: tight_place(4, bad, None), lambda: halfway(4, bad, None)]:
                with self.assertRaises(BadState):
                    call()
        for bad in not_numbers(0, 1):
            for call in [lambda: price_between(4, (0, 2), bad, None), lambda: gap_behind(4, (0, 2), bad),
                         lambda: halfway(4, (0, 2), bad)]:
                with self.assertRaises(BadPlace):
                    call()
        for bad in STATES + [(0, 1), (0,), (0, 1, 4), (0, 1, 2, 3), [0, 1, 2], (0, 1, True), (0, 2, 1)]:
            with self.assertRaises(BadLater):
                price_between(4, (0, 2), 1, bad)
        for bad in not_numbers(0, 59):
            with self.assertRaises(BadLeft):
                tight_place(4, (0, 2), bad)


class TestGame(unittest.TestCase):
    def test_least_price(self):
        for many, items in GAMES:
            self.assertEqual(least_price(many, items), search(many, items))
        self.assertEqual(least_price(many=7, items=7), search(7, 7))
        self.assertEqual(least_price(7, 4), search(7, 4))

    def test_facts(self):
        prices = {(many, items): least_price(many, items) for many in range(1, 8) for items in range(1, many + 1)}
        for (many, items), price in prices.items():
            self.assertIs(price == 0, many >= 2 ** (items - 1))
            self.assertGreaterEqual(price, prices.get((many + 1, items), 0))
            self.assertLessEqual(price, prices.get((many, items + 1), price))

    def test_tables(self):
        for many in range(1, 8):
            for items in range(1, many + 1):
                price = least_price(many, items)
                kept, forced = keeping(many, items), forcing(many, items)
                for told in range(price + 3):
                    self.assertIs(is_keeping(many, items, told, kept), told >= price)
                    self.assertIs(is_forcing(many, items, told, forced), told <= price)
                    self.assertIs(self.keeps(many, items, told, kept), told >= price)
                    self.assertIs(self.forces(many, items, told, forced), told <= price)
        self.assertTrue(is_keeping(many=3, items=3, price=1, value=keeping(many=3, items=3)))
        self.assertTrue(is_forcing(many=3, items=3, price=1, value=forcing(many=3, items=3)))

    def keeps(self, many, items, price, value):
        """The words of [32] for a table of the right form."""
        begin, table = value
        for state, (bound, laters) in table.items():
            if state not in states(many, len(state)) or len(state) > items:
                return False
            if len(laters) != (len(state) if len(state) < items else 0):
                return False
            for place, later in enumerate(laters):
                if later not in table or later not in states(many, len(state) + 1):
                    return False
                if plain_price(state, place, later) + table[later][0] > bound:
                    return False
        return len(begin) == 1 and begin in table and table[begin][0] <= price

    def forces(self, many, items, price, value):
        if set(value) != {state for size in range(1, items + 1) for state in states(many, size)}:
            return False
        for state, (bound, place) in value.items():
            if len(state) == items:
                if (bound, place) != (0, None):
                    return False
                continue
            for later in states(many, len(state) + 1):
                if plain_price(state, place, later) + value[later][0] < bound:
                    return False
        return all(value[state][0] >= price for state in states(many, 1))

    def test_changed_keepers_tables(self):
        for many, items in GAMES:
            price = least_price(many, items)
            begin, table = keeping(many, items)
            for state in list(table):
                bound, laters = table[state]
                less = {**table, state: (bound - 1, laters)}
                if bound == 0:
                    self.assertIs(is_keeping(many, items, price, (begin, less)), False)
                else:
                    self.assertIs(is_keeping(many, items, price, (begin, less)),
                                  self.keeps(many, items, price, (begin, less)))
                more = {**table, state: (bound + 1, laters)}
                self.assertIs(is_keeping(many, items, price, (begin, more)), self.keeps(many, items, price, (begin, more)))
                gone = {key: row for key, row in table.items() if key != state}
                self.assertIs(is_keeping(many, items, price, (begin, gone)), self.keeps(many, items, price, (begin, gone)))
                for pair in [(bound, list(laters)), [bound, laters], (True, laters), (bound,), (bound, laters, 0), None,
                             (bound, laters + ((0,),)), (bound, None), (None, laters), (bound, laters[:-1] + (None,)),
                             ("0", laters), (bound, laters[:-1] + ([0],)), (bound, laters[:-1] + ({},))]:
                    self.assertIs(is_keeping(many, items, price, (begin, {**table, state: pair})), False, pair)
                if laters:
                    self.assertIs(is_keeping(many, items, price, (begin, {**table, state: (bound, laters[:-1])})), False)
                    self.assertIs(is_keeping(many, items, price, (begin, {**table, state: (bound, ())})), False)
                for at in range(len(laters)):
                    for later in states(many, len(state) + 1):
                        other = {**table, state: (bound, laters[:at] + (later,) + laters[at + 1:])}
                        self.assertIs(is_keeping(many, items, price, (begin, other)),
                                      self.keeps(many, items, price, (begin, other)))

    def test_changed_writers_tables(self):
        for many, items in GAMES:
            price = least_price(many, items)
            table = forcing(many, items)
            for state in list(table):
                bound, place = table[state]
                for told in [bound - 1, bound + 1]:
                    other = {**table, state: (told, place)}
                    self.assertIs(is_forcing(many, items, price, other),
                                  told >= 0 and self.forces(many, items, price, other))
                gone = {key: row for key, row in table.items() if key != state}
                self.assertIs(is_forcing(many, items, price, gone), False)
                for pair in [[bound, place], (bound,), (bound, place, 0), None, (None, place), (True, place), (False, place),
                             (bound, len(state)), (bound, -1), (bound, True), (bound, False), (bound, "0")]:
                    self.assertIs(is_forcing(many, items, price, {**table, state: pair}), False, pair)
                if place is not None:
                    self.assertIs(is_forcing(many, items, price, {**table, state: (bound, None)}), False)
                    for at in range(len(state)):
                        other = {**table, state: (bound, at)}
                        self.assertIs(is_forcing(many, items, price, other), self.forces(many, items, price, other))
                else:
                    self.assertIs(is_forcing(many, items, price, {**table, state: (0, 0)}), False)

    def test_rows_beside(self):
        for beside in [(True,), (0, True), (5,), (), None, "x", 3, (0, 1, 2, 3), (1, 0), (0, 0)]:
            begin, table = keeping(5, 3)
            self.assertIs(is_keeping(5, 3, 9, (begin, {**table, beside: (0, ())})), beside == (True,) and False)
            self.assertIs(is_forcing(5, 3, 0, {**forcing(5, 3), beside: (0, None)}), False)

    def test_bounds_from_nought_on(self):
        table = {state: (0, 0) if size < 4 else (0, None) for size in range(1, 5) for state in states(5, size)}
        self.assertIs(is_forcing(5, 4, 0, table), True)
        for state in table:
            self.assertIs(is_forcing(5, 4, 0, {**table, state: (-1, table[state][1])}), False)
        for a, b, c in states(5, 3):
            # No turn that is named comes to (a, b, c) without a move: a bound of -1 there would do.
            other = {**table, (a, b): (0, 0), (a, c): (0, 1)}
            self.assertIs(is_forcing(5, 4, 0, other), True)
            self.assertIs(is_forcing(5, 4, 0, {**other, (a, b, c): (-1, 0)}), False)

    def test_just_all_states(self):
        for many, items in [(5, 3), (4, 2), (4, 1)]:
            table = forcing(many, items)
            for state in list(table):
                for other in states(many, items + 1) + [(many,), (True,), "0", (0, 0)]:
                    row = {key: table[key] for key in table if key != state}
                    self.assertIs(is_forcing(many, items, 0, {**row, other: (0, None)}), False)

    def test_true_as_a_key(self):
        begin, table = keeping(3, 2)
        other = {tuple(label == 1 if label == 1 else label for label in state): row for state, row in table.items()}
        self.assertIs(is_keeping(3, 2, 9, (begin, table)), True)
        self.assertIs(is_keeping(3, 2, 9, (begin, other)), False)
        forced = forcing(3, 2)
        other = {tuple(False if label == 0 else label for label in state): row for state, row in forced.items()}
        self.assertIs(is_forcing(3, 2, 0, forced), True)
        self.assertIs(is_forcing(3, 2, 0, other), False)
        laters = {state: (bound, tuple(tuple(label == 1 if label == 1 else label for label in later) for later in rows))
                  for state, (bound, rows) in table.items()}
        self.assertIs(is_keeping(3, 2, 9, (begin, laters)), False)

    def test_begin(self):
        begin, table = keeping(4, 3)
        for other in [(0, 2), (), None, 0, [0], (True,), (False,), (7,), "0", {}]:
            self.assertIs(is_keeping(4, 3, 99, (other, table)), False, other)
        self.assertIs(is_keeping(4, 3, 99, [begin, table]), False)
        self.assertIs(is_keeping(4, 3, 99, (begin, table, 0)), False)
        self.assertIs(is_keeping(4, 3, 99, (begin, list(table.items()))), False)
        for other in [[(1,)], ((1,),), None, 0, "", {}, {0: (0, ())}, [((1,), (0, ()))]]:
            self.assertIs(is_keeping(2, 1, 0, ((1,), other)), False, other)
        self.assertIs(is_keeping(2, 1, 0, ((1,), {(1,): (0, ())})), True)
        self.assertIs(is_keeping(2, 1, 0, ((0,), {(1,): (0, ())})), False)
        self.assertIs(is_keeping(2, 1, 3, ((1,), {(1,): (4, ())})), False)
        self.assertIs(is_keeping(2, 1, 4, ((1,), {(1,): (4, ())})), True)
        for value in odd_values():
            self.assertIs(is_keeping(4, 3, 99, value), False)
            self.assertIs(is_forcing(4, 3, 0, value), False)

    def test_a_table_need_not_have_all_states(self):
        table = {(0,): (1, ((0, 2),)), (0, 2): (1, ((0, 1, 2), (0, 1, 2))), (0, 1, 2): (0, ())}
        self.assertIs(is_keeping(3, 3, 1, ((0,), table)), True)
        self.assertIs(is_keeping(3, 3, 0, ((0,), table)), False)
        table[(0, 2)] = (0, ((0, 1, 2), (0, 1, 2)))
        self.assertIs(is_keeping(3, 3, 1, ((0,), table)), False)

    def test_new_each_time(self):
        begin, table = keeping(3, 3)
        table.clear()
        self.assertTrue(is_keeping(3, 3, 1, keeping(3, 3)))
        forcing(3, 3).clear()
        self.assertTrue(is_forcing(3, 3, 1, forcing(3, 3)))

    def test_errors(self):
        for bad in not_numbers(1, 7):
            for call in [lambda: least_price(bad, None), lambda: keeping(bad, None), lambda: forcing(bad, None),
                         lambda: is_keeping(bad, None, None, None), lambda: is_forcing(bad, None, None, None)]:
                with self.assertRaises(BadMany):
                    call()
        for many in (1, 4, 7):
            for bad in not_numbers(1, many):
                for call in [lambda: least_price(many, bad), lambda: keeping(many, bad), lambda: forcing(many, bad),
                             lambda: is_keeping(many, bad, None, None), lambda: is_forcing(many, bad, None, None)]:
                    with self.assertRaises(BadItems):
                        call()
        for bad in not_numbers(0):
            for call in [lambda: is_keeping(4, 2, bad, None), lambda: is_forcing(4, 2, bad, None)]:
                with self.assertRaises(BadPrice):
                    call()


if __name__ == "__main__":
    unittest.main()
