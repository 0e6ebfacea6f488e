"""The game of a duel: what a keeper can do behind each move, the price of it, and the least pots for a price."""

from asifcopied.checks import TOO_GREAT
from asifcopied.errors import TooMany

MOST_RECORDS = 6
# How many figures the slots of a record have in the number of a used tuple: at most 66 are counted there.
FIGURES = 7
FULL = 127


def count_used(records, extra):
    """How many used tuples there are."""
    many = 1
    for _ in range(records):
        many = many * (extra + 1)
    return many


def check_size(shape, extra, most):
    """Refuse a shape of too many records, or with too many used tuples."""
    if len(shape) > MOST_RECORDS or count_used(len(shape), extra) > most:
        raise TooMany("the shape has too many records or used tuples")


def all_used(records, extra):
    """The ascending list of all used tuples."""
    rows = [()]
    for _ in range(records):
        rows = [row + (slots,) for row in rows for slots in range(extra + 1)]
    return rows


def behind(shape, used, record, copied):
    """The slots that are used behind a turn, however many they come to."""
    gone = {item: True for item in copied}
    told = []
    for item, slots in enumerate(used):
        led = len([1 for other in shape[item] if other in gone])
        moved = 1 if item == record else 0
        told.append(0 if item in gone else slots + led + moved)
    return tuple(told)


def numbers_to(records, extra):
    """The ascending list of the numbers of all used tuples."""
    rows = [0]
    for _ in range(records):
        rows = [(row << FIGURES) + slots for row in rows for slots in range(extra + 1)]
    return rows


class Game:
    """The used tuples of a shape, and what the keeper can come to from each of them.

    A used tuple is told by its number, in which each record has figures of its own, the first one the highest: so
    numbers rise as tuples do. It is loaded when a move is counted in and nothing is copied yet. A set of records is
    told by its bits, the lowest one for the first record.
    """

    def __init__(self, shape, extra):
        self.extra = extra
        self.units = [1 << FIGURES * (len(shape) - 1 - record) for record in range(len(shape))]
        self.states = numbers_to(len(shape), extra)
        self.places = {state: at for at, state in enumerate(self.states)}
        # For each set how many records it has, the figures of all others, the slots that are used by fields that lead
        # to it, and the set of the records to which it leads.
        self.counts = [0]
        self.keeps = [FULL * sum(self.units)]
        self.leds = [0]
        self.targets = [0]
        for record, unit in enumerate(self.units):
            led = sum([self.units[item] * row.count(record) for item, row in enumerate(shape)])
            target = bits_of(shape[record])
            self.counts = self.counts + [count + 1 for count in self.counts]
            self.keeps = self.keeps + [keep - FULL * unit for keep in self.keeps]
            self.leds = self.leds + [slots + led for slots in self.leds]
            self.targets = self.targets + [bits | target for bits in self.targets]
        # The sets, those of few records first.
        self.sets = sorted(range(len(self.counts)), key=lambda copied: self.counts[copied])

    def too_full(self, used):
        """The set of the records that have more than extra used slots."""
        bits = 0
        for record, unit in enumerate(self.units):
            if used & FULL * unit > self.extra * unit:
                bits = bits | 1 << record
        return bits

    def choices(self, loaded):
        """The choices that a keeper need not do without: pairs of how many are copied, and of the place behind.

        What is copied can as well be copied a turn later, together with what is copied then, if none of the other
        records that are copied leads to it: in the end no record is more used, and no more are copied. So a choice
        begins with the records that are too full, and goes on with those to which copied ones lead.
        """
        told = []
        waiting = [0]
        met = {0: True}
        while waiting:
            copied = waiting.pop()
            later = (loaded + self.leds[copied]) & self.keeps[copied]
            if later in self.places:
                told.append((self.counts[copied], self.places[later]))
                wider = [copied | 1 << record for record in range(len(self.units))
                         if self.targets[copied] >> record & 1]
            else:
                wider = [copied | self.too_full(later)]
            for bits in wider:
                if bits not in met:
                    met[bits] = True
                    waiting.append(bits)
        return told

    def turn(self, record):
        """What can come of a move of the record: a pair of places and of lists of choices.

        There is a place for each used tuple: that of the one behind, if nothing need be copied; otherwise, all used
        tuples being counted ahead, that of a list of choices.
        """
        unit = self.units[record]
        places = []
        lists = []
        for state in self.states:
            if state + unit in self.places:
                places.append(self.places[state + unit])
            else:
                places.append(len(self.states) + len(lists))
                lists.append(self.choices(state + unit))
        return places, lists

    def turns(self):
        """The list of the turns of all records."""
        return [self.turn(record) for record in range(len(self.units))]


def bits_of(records):
    """The set of some records."""
    bits = 0
    for record in records:
        bits = bits | 1 << record
    return bits


def records_in(bits):
    """The ascending tuple of the records of a set."""
    return tuple([record for record in range(MOST_RECORDS) if bits >> record & 1])


def ahead_of(turn, totals):
    """The list of how many copies are made at least from each used tuple on, totals being how many from the next on."""
    places, lists = turn
    row = totals + [min([copies + totals[to] for copies, to in choices]) for choices in lists]
    return [row[at] for at in places]


def price_of(turns):
    """The pair of how many are copied in a round of moves that comes again for ever, and of how many moves it has.

    The totals tell how many copies a keeper makes at least in so many moves. What the totals are above the first
    one is one of finitely many rows, so it comes again, and the totals grow from there on as they did before.
    """
    totals = [0] * len(turns[0][0])
    met = {}
    moves = 0
    row = tuple(totals)
    while row not in met:
        met[row] = (totals[0], moves)
        rows = [ahead_of(turn, totals) for turn in turns]
        totals = rows[0]
        for other in rows[1:]:
            totals = [one if one > more else more for one, more in zip(totals, other)]
        moves += 1
        first = totals[0]
        row = tuple([total - first for total in totals])
    copies_before, moves_before = met[row]
    return totals[0] - copies_before, moves - moves_before


def raised(many, due):
    """Raise each of so many pots to what is due, as long as that changes any: the least pots that suffice."""
    pots = [0] * many
    changed = True
    while changed:
        changed = False
        # What is due hangs on fuller used tuples above all, so these come first.
        for at in range(many - 1, -1, -1):
            pot = due(pots, at)
            if pot > pots[at]:
                pots[at] = pot
                changed = True
    return pots


def choices_at(turn, at):
    """The list of the choices at a used tuple."""
    places, lists = turn
    return lists[places[at] - len(places)] if places[at] >= len(places) else [(0, places[at])]


def holding_pots(turns, num, den):
    """The least pots of a holding paper, for a price that is not below that of the duel."""
    def due(pots, at):
        told = [min([den * copies + pots[to] for copies, to in choices_at(turn, at)]) for turn in turns]
        return max(told) - num
    return raised(len(turns[0][0]), due)


def pressing_dues(pots, turns, at, num, den):
    """The list of what the pot must be at least, for each record moved."""
    return [num + max([pots[to] - den * copies for copies, to in choices_at(turn, at)]) for turn in turns]


def pressing_pots(turns, num, den):
    """The least pots of a pressing paper, for a price that is not above that of the duel."""
    def due(pots, at):
        return min(pressing_dues(pots, turns, at, num, den))
    return raised(len(turns[0][0]), due)


def is_held(game, num, den, pots):
    """Whether, whatever record is moved, some choice of the keeper is paid by the price and the pots.

    pots is a dict by the numbers of the used tuples; so is lefts, by those of loaded ones: what may be spent.
    """
    lefts = {}
    for state in game.states:
        for unit in game.units:
            left = num + pots[state]
            lefts[state + unit] = min(left, lefts.get(state + unit, left))
    waiting = list(lefts)
    for copied in game.sets:
        keep, led, cost = game.keeps[copied], game.leds[copied], den * game.counts[copied]
        waiting = [loaded for loaded in waiting
                   if cost + pots.get((loaded + led) & keep, 2 * TOO_GREAT) > lefts[loaded]]
    return not waiting


def is_pressed(game, num, den, pots, records):
    """Whether all choices of the keeper pay the price, but for what is in the pots, if these records are moved."""
    rows = [(state + game.units[records[state]], pots[state] - num) for state in game.states]
    for copied in game.sets:
        keep, led, cost = game.keeps[copied], game.leds[copied], den * game.counts[copied]
        if not all([pots.get((loaded + led) & keep, -TOO_GREAT) <= left + cost for loaded, left in rows]):
            return False
    return True


def least_copies(game, moves):
    """The list that has, for each number of moves done, how many copies the others take from each used tuple on."""
    turns = {}
    for record in moves:
        if record not in turns:
            turns[record] = game.turn(record)
    rows = [[0] * len(game.states)]
    for record in reversed(moves):
        rows.append(ahead_of(turns[record], rows[-1]))
    return rows[::-1]


def best_copied(game, moves):
    """The list of the copied records of each turn of a keeper who copies as few as can be."""
    rows = least_copies(game, moves)
    state = 0
    told = []
    for turn, record in enumerate(moves):
        loaded = state + game.units[record]
        best = []
        for copied in game.sets:
            later = (loaded + game.leds[copied]) & game.keeps[copied]
            if later in game.places:
                best.append((game.counts[copied] + rows[turn + 1][game.places[later]], later, copied))
        _, state, copied = min(best)
        told.append(records_in(copied))
    return told
