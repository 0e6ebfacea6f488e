"""Labels: numbers that rise along a row of items, into which items come at any place."""

from asifcopied.checks import is_between, is_from, is_list, is_pair
from asifcopied.errors import BadBits, BadItem, BadLabels, BadLevel, BadPuts, Full

MOST_BITS = 59


def check_bits(bits):
    """Refuse what is no number of bits."""
    if not is_between(bits, 1, MOST_BITS):
        raise BadBits("bits is a number from 1 to 59")


def most_in(level):
    """How many items a stretch of the level can have: the greatest t with 3 ** level * t <= 4 ** level."""
    if not is_between(level, 0, MOST_BITS):
        raise BadLevel("a level is a number from 0 to 59")
    threes = 1
    for _ in range(level):
        threes *= 3
    return (1 << 2 * level) // threes


class Labels:
    """Items in a row, with labels below 2 ** bits that rise along it."""

    def __init__(self, bits):
        check_bits(bits)
        self.bits = bits
        self._labels = [0]
        self._ahead = [None]
        self._behind = [None]
        self._moved = 0

    def _check(self, item):
        if not is_between(item, 0, len(self._labels) - 1):
            raise BadItem("an item is the number of one that is here")

    def _end(self, item):
        """The label of the item right behind, or the number of all labels."""
        behind = self._behind[item]
        return 1 << self.bits if behind is None else self._labels[behind]

    def _crowd(self, item):
        """The least stretch around the item that has room for one more.

        A triple: its level, the first of its items, and how many there are with the new one.
        """
        one = self._labels[item]
        low, high, many = item, item, 2
        for level in range(self.bits + 1):
            first = one >> level << level
            while self._ahead[low] is not None and self._labels[self._ahead[low]] >= first:
                low = self._ahead[low]
                many += 1
            while self._behind[high] is not None and self._labels[self._behind[high]] < first + (1 << level):
                high = self._behind[high]
                many += 1
            if many <= most_in(level):
                return level, low, many
        raise Full(len(self._labels))

    def _insert(self, item, label):
        """Let a new item stand right behind the item."""
        fresh = len(self._labels)
        behind = self._behind[item]
        self._labels.append(label)
        self._ahead.append(item)
        self._behind.append(behind)
        self._behind[item] = fresh
        if behind is not None:
            self._ahead[behind] = fresh

    def _spread(self, low, many, level):
        """Spread the labels of so many items, from low on, over their stretch: how many have another one."""
        first = self._labels[low] >> level << level
        changed = 0
        item = low
        for at in range(many):
            label = first + at * (1 << level) // many
            if label != self._labels[item]:
                changed += 1
            self._labels[item] = label
            item = self._behind[item]
        return changed

    def put(self, item):
        """A new item comes right behind the item: how many others have another label than they had."""
        self._check(item)
        one = self._labels[item]
        end = self._end(item)
        if end > one + 1:
            self._insert(item, (one + end) // 2)
            return 0
        level, low, many = self._crowd(item)
        # The new item has no label of its own yet: one that no item can have makes it count as changed.
        self._insert(item, -1)
        changed = self._spread(low, many, level) - 1
        self._moved += changed
        return changed

    def label(self, item):
        """The label of the item."""
        self._check(item)
        return self._labels[item]

    def is_ahead(self, one, other):
        """Whether one stands ahead of other."""
        self._check(one)
        self._check(other)
        return self._labels[one] < self._labels[other]

    def behind(self, item):
        """The item right behind, None if there is none."""
        self._check(item)
        return self._behind[item]

    def row(self):
        """The list of the items as they stand."""
        row = []
        item = 0
        while item is not None:
            row.append(item)
            item = self._behind[item]
        return row

    def moved(self):
        """The sum of the results of all puts."""
        return self._moved

    def copy(self):
        """Labels of their own with the same items."""
        other = Labels(self.bits)
        other._labels = list(self._labels)
        other._ahead = list(self._ahead)
        other._behind = list(self._behind)
        other._moved = self._moved
        return other

    def __len__(self):
        return len(self._labels)

    def __eq__(self, other):
        if not isinstance(other, Labels):
            return False
        return self.bits == other.bits and self._labels == other._labels and self._moved == other._moved


def potential(labels):
    """The sum, over the stretches of all levels but the last, of 4 for each item above half of what is let."""
    if not isinstance(labels, Labels):
        raise BadLabels("labels are Labels")
    told = [labels.label(item) for item in labels.row()]
    above = 0
    for level in range(labels.bits):
        half = (most_in(level + 1) + 1) // 2
        # An item is above the half if the item so many places ahead of it is in its stretch, too.
        above += len([1 for one, other in zip(told, told[half:]) if one >> level == other >> level])
    return 4 * above


def check_puts(puts):
    """Refuse what is no list of puts that can be done one behind another."""
    if not is_list(puts):
        raise BadPuts(None)
    for at, item in enumerate(puts):
        if not is_between(item, 0, at):
            raise BadPuts(at)


def ledger(bits, puts):
    """The tuple of the pairs of the result of each put and the potential behind it."""
    check_bits(bits)
    check_puts(puts)
    labels = Labels(bits)
    rows = []
    for item in puts:
        moved = labels.put(item)
        rows.append((moved, potential(labels)))
    return tuple(rows)


def is_ledger(bits, puts, value):
    """Whether any value shows, pair by pair, that each put is paid for."""
    check_bits(bits)
    check_puts(puts)
    labels = Labels(bits)
    results = [labels.put(item) for item in puts]
    if not isinstance(value, tuple) or len(value) != len(results):
        return False
    ahead = 0
    for result, pair in zip(results, value):
        if not is_pair(pair) or not is_from(pair[0], 0) or not is_from(pair[1], 0):
            return False
        moved, stock = pair
        if moved != result or moved + stock > ahead + 4 * bits:
            return False
        ahead = stock
    return True
