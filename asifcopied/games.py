"""The game of a duel: what a keeper can do behind each move, the price of it, and the least pots for a price."""

from asifcopied.errors import TooMany

MOST_RECORDS = 6


def count_used(records, extra):
    """How many used tuples there are."""
    many = 1
    for _ in range(records):
        many = many * (extra + 1)
    return many


def check_size(shape, extra, most):
    """Refuse a shape of too many records, or with too many used tuples."""
    if len(shape) > MOST_RECORDS or count_used(len(shape), extra) > most:
        raise TooMany("the shape has too many records or used tuples")


def all_used(records, extra):
    """The ascending list of all used tuples."""
    rows = [()]
    for _ in range(records):
        rows = [row + (slots,) for row in rows for slots in range(extra + 1)]
    return rows


def subsets(records):
    """The list of the ascending tuples of some of the records, also of none."""
    rows = [()]
    for record in range(records):
        rows = rows + [row + (record,) for row in rows]
    return rows


def behind(shape, used, record, copied):
    """The slots that are used behind a turn, however many they come to."""
    gone = {item: True for item in copied}
    told = []
    for item, slots in enumerate(used):
        led = len([1 for other in shape[item] if other in gone])
        moved = 1 if item == record else 0
        told.append(0 if item in gone else slots + led + moved)
    return tuple(told)


def is_below(one, other):
    """Whether no number of one is above that of other at its place."""
    for low, high in zip(one, other):
        if low > high:
            return False
    return True


def worthwhile(choices):
    """The choices without those that copy as many as another one at least, and leave no record less used."""
    kept = []
    for choice in sorted(choices, key=lambda row: (len(row[0]), sum(row[1]))):
        if not [1 for other in kept if is_below(other[1], choice[1])]:
            kept.append(choice)
    return kept


class Game:
    """The used tuples of a shape, and the choices of the keeper at each of them.

    A choice is a pair of the copied records and the used tuple behind the turn.
    """

    def __init__(self, shape, extra):
        self.shape = shape
        self.extra = extra
        self.states = all_used(len(shape), extra)
        self.places = {state: at for at, state in enumerate(self.states)}
        self.sets = subsets(len(shape))

    def choices(self, used, record):
        """The list of all choices that the keeper has if the record is moved."""
        told = [(copied, behind(self.shape, used, record, copied)) for copied in self.sets]
        return [(copied, later) for copied, later in told if max(later) <= self.extra]

    def best_choices(self, used, record):
        """The choices that a keeper need not do without, as triples with the place of the used tuple behind."""
        told = worthwhile(self.choices(used, record))
        return [(len(copied), self.places[later], copied) for copied, later in told]

    def turns(self):
        """For each used tuple, for each record, the pairs of how many are copied and of the place behind."""
        records = list(range(len(self.shape)))
        return [[[(copies, to) for copies, to, _ in self.best_choices(used, record)] for record in records]
                for used in self.states]


def price_of(turns):
    """The pair of how many are copied in a round of moves that comes again for ever, and of how many moves it has.

    The totals tell how many copies a keeper makes at least in so many moves. What the totals are above the first
    one is one of finitely many rows, so it comes again, and the totals grow from there on as they did before.
    """
    totals = [0] * len(turns)
    met = {}
    moves = 0
    row = tuple(totals)
    while row not in met:
        met[row] = (totals[0], moves)
        totals = [max([min([copies + totals[to] for copies, to in choices]) for choices in turn]) for turn in turns]
        moves += 1
        first = totals[0]
        row = tuple([total - first for total in totals])
    copies_before, moves_before = met[row]
    return totals[0] - copies_before, moves - moves_before


def raised(pots, turns, due):
    """Raise each pot to what is due, as long as that changes any: the least pots that suffice."""
    pots = list(pots)
    changed = True
    while changed:
        changed = False
        # What is due hangs on fuller used tuples above all, so these come first.
        for at in range(len(turns) - 1, -1, -1):
            pot = due(pots, turns[at])
            if pot > pots[at]:
                pots[at] = pot
                changed = True
    return pots


def holding_pots(turns, num, den):
    """The least pots of a holding paper, for a price that is not below that of the duel."""
    def due(pots, turn):
        return max([min([den * copies + pots[to] for copies, to in choices]) for choices in turn]) - num
    return raised([0] * len(turns), turns, due)


def pressing_dues(pots, turn, num, den):
    """The list of what the pot must be at least, for each record moved."""
    return [num + max([pots[to] - den * copies for copies, to in choices]) for choices in turn]


def pressing_pots(turns, num, den):
    """The least pots of a pressing paper, for a price that is not above that of the duel."""
    def due(pots, turn):
        return min(pressing_dues(pots, turn, num, den))
    return raised([0] * len(turns), turns, due)


def least_copies(game, moves):
    """The list that has, for each number of moves done, how many copies the others take from each used tuple on.

    The second part of the pair is the dict from the moved records to the choices at each used tuple.
    """
    options = {}
    for record in moves:
        if record not in options:
            options[record] = [game.best_choices(used, record) for used in game.states]
    rows = [[0] * len(game.states)]
    for record in reversed(moves):
        later = rows[-1]
        rows.append([min([copies + later[to] for copies, to, _ in choices]) for choices in options[record]])
    return rows[::-1], options


def best_copied(game, moves):
    """The list of the copied records of each turn of a keeper who copies as few as can be."""
    rows, options = least_copies(game, moves)
    at = 0
    told = []
    for turn, record in enumerate(moves):
        later = rows[turn + 1]
        best = min([(copies + later[to], to, copied) for copies, to, copied in options[record][at]])
        at = best[1]
        told.append(best[2])
    return told
