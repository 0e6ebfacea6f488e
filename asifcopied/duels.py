"""The price of copying: what a course pays, rings that pay the most, and duels of a writer and a keeper."""

from asifcopied.checks import is_between, is_from, is_list, is_pair
from asifcopied.copying import MOST_EXTRA, check_course, check_extra, is_ascending
from asifcopied.errors import BadCopied, BadExtra, BadMost, BadMoves, BadPrice, BadRecord, BadRounds, BadShape, BadUsed
from asifcopied.games import Game, all_used, behind, best_copied, check_size, count_used, holding_pots, is_held
from asifcopied.games import is_pressed, least_copies, pressing_dues, pressing_pots, price_of
from asifcopied.tracks import Track

MOST_POINTERS = 5
MOST_ITEMS = 300
MOST_RING = 5
MOST_LEADING = 12000
MOST_ROUNDS = 200
MOST_PRICE = 1000
SHAPE_WIDE = 6
MOST_SEARCHED = 1000
MOST_PRICED = 100


def most_pointed(story, wide):
    """From how many fields one record is pointed at at the most, in any version's heap."""
    check_course(story, wide)
    track = Track(wide)
    most = 0
    for _, deed in story:
        track.settle(track.advance(deed), [])
        most = max(most, max([len(fields) for fields in track.leads]))
    return most


def paid_rows(story, wide, extra):
    """The tuple of what each version changes, how much it copies, how many fields lead there, and what is used then."""
    check_course(story, wide)
    check_extra(extra)
    track = Track(wide)
    rows = []
    for _, deed in story:
        fields = track.advance(deed)
        copied = track.due(fields, extra)
        led = sum([len(track.leading(record)) for record in copied])
        track.settle(fields, copied)
        rows.append((len(fields), len(copied), led, sum(track.taken)))
    return tuple(rows)


def is_paid(value):
    """Whether any value is a row of four numbers from 0 on."""
    return isinstance(value, tuple) and len(value) == 4 and all([is_from(number, 0) for number in value])


def adds_up(extra, most, value):
    """Whether any value is rows in which copies are paid by changes and by the fields that lead to them."""
    check_extra(extra)
    if not is_between(most, 0, MOST_LEADING):
        raise BadMost("most is a number from 0 to 12,000")
    if not isinstance(value, tuple) or not all([is_paid(row) for row in value]):
        return False
    ahead = 0
    for changes, copies, led, used in value:
        if led > most * copies or used + (extra + 1) * copies > ahead + changes + led:
            return False
        ahead = used
    return True


def is_shape(value):
    """Whether any value is a shape: for each record the records to which it leads."""
    if not isinstance(value, tuple) or not 1 <= len(value) <= MOST_ITEMS:
        return False
    for row in value:
        if not isinstance(row, tuple) or len(row) > MOST_POINTERS:
            return False
        if not all([is_between(record, 0, len(value) - 1) for record in row]):
            return False
    return True


def check_shape(shape):
    """Refuse what is no shape."""
    if not is_shape(shape):
        raise BadShape("a shape is a tuple of tuples of at most 5 numbers of records")


def check_moves(shape, moves):
    """Refuse what is no list of records of the shape."""
    if not is_list(moves) or not all([is_between(record, 0, len(shape) - 1) for record in moves]):
        raise BadMoves("moves are a list of numbers of records of the shape")


def shape_story(shape, moves):
    """The course that makes the records of the shape, and then moves one of them with each deed."""
    check_shape(shape)
    check_moves(shape, moves)
    deed = [("make", (0,) + (None,) * (SHAPE_WIDE - 1)) for _ in shape]
    for record, row in enumerate(shape):
        for at, other in enumerate(row):
            deed.append(("set", record + 1, at + 1, ("to", other + 1)))
    turns = [(at + 1, [("set", record + 1, 0, at + 1)]) for at, record in enumerate(moves)]
    return [(0, deed)] + turns


def check_ring(most):
    """Refuse what is no number of pointers to each record of a ring."""
    if not is_between(most, 1, MOST_RING):
        raise BadMost("most is a number from 1 to 5")


def ring_shape(most):
    """The shape of most + 1 records, each of which leads to all the others."""
    check_ring(most)
    records = range(most + 1)
    return tuple([tuple([other for other in records if other != record]) for record in records])


def ring_moves(most, extra, rounds):
    """The moves that make the least plan pay the most on a ring."""
    check_ring(most)
    if not is_between(extra, most, MOST_EXTRA):
        raise BadExtra("extra is a number from most to 60")
    if not is_between(rounds, 0, MOST_ROUNDS):
        raise BadRounds("rounds is a number from 0 to 200")
    moves = []
    for record in range(most + 1):
        moves.extend([record] * (extra - record))
    for turn in range(rounds):
        moves.extend([turn % (most + 1)] * (extra + 1 - most))
    return moves


def is_used(value, shape, extra):
    """Whether any value is a used tuple."""
    if not isinstance(value, tuple) or len(value) != len(shape):
        return False
    return all([is_between(slots, 0, extra) for slots in value])


def used_behind(shape, extra, used, record, copied):
    """The used tuple behind a turn."""
    check_shape(shape)
    check_extra(extra)
    if not is_used(used, shape, extra):
        raise BadUsed("a used tuple has a number from 0 to extra for each record")
    if not is_between(record, 0, len(shape) - 1):
        raise BadRecord("a record is a number of the shape")
    if not is_ascending(copied, len(shape)):
        raise BadCopied("the copied records are an ascending tuple of numbers of the shape")
    later = behind(shape, used, record, copied)
    if max(later) > extra:
        raise BadCopied("some record has more than extra used slots")
    return later


def played(shape, extra, moves):
    """The game of a duel on the shape, if these moves can be looked at."""
    check_shape(shape)
    check_extra(extra)
    check_moves(shape, moves)
    check_size(shape, extra, MOST_SEARCHED)
    return Game(shape, extra)


def fewest(shape, extra, moves):
    """How many copies a keeper who knows all moves ahead makes at least."""
    return least_copies(played(shape, extra, moves), moves)[0][0]


def best_plan(shape, extra, moves):
    """A good plan of the shape's story with as few copies as can be."""
    turns = best_copied(played(shape, extra, moves), moves)
    return ((),) + tuple([tuple([record + 1 for record in copied]) for copied in turns])


def check_duel(shape, extra, price):
    """Refuse what is no shape, no number of slots, no price, or more than can be looked at."""
    check_shape(shape)
    check_extra(extra)
    if not is_pair(price) or not is_between(price[0], 0, MOST_PRICE) or not is_between(price[1], 1, MOST_PRICE):
        raise BadPrice("a price is a pair of a number from 0 and one from 1 on, both at most 1,000")
    check_size(shape, extra, MOST_SEARCHED)


def compared(price, turns):
    """A number above 0 if the price is above that of the duel, below 0 if it is below it, otherwise 0."""
    copies, moves = price_of(turns)
    return price[0] * moves - price[1] * copies


def holding(shape, extra, price):
    """The holding paper with the least pots, None if there is none."""
    check_duel(shape, extra, price)
    turns = Game(shape, extra).turns()
    if compared(price, turns) < 0:
        return None
    pots = holding_pots(turns, price[0], price[1])
    return {used: pots[at] for at, used in enumerate(all_used(len(shape), extra))}


def pressing(shape, extra, price):
    """The pressing paper with the least pots, None if there is none."""
    check_duel(shape, extra, price)
    turns = Game(shape, extra).turns()
    if compared(price, turns) > 0:
        return None
    num, den = price
    pots = pressing_pots(turns, num, den)
    paper = {}
    for at, used in enumerate(all_used(len(shape), extra)):
        dues = pressing_dues(pots, turns, at, num, den)
        paper[used] = (pots[at], dues.index(min(dues)))
    return paper


def is_keyed(value, shape, extra):
    """Whether any value is a dict whose keys are just all used tuples."""
    if not isinstance(value, dict) or len(value) != count_used(len(shape), extra):
        return False
    if not all([used in value for used in all_used(len(shape), extra)]):
        return False
    # Each key is equal to a used tuple now; but True is equal to 1.
    return not any([isinstance(slots, bool) for used in value for slots in used])


def is_holding(shape, extra, price, value):
    """Whether any value is a holding paper for the price."""
    check_duel(shape, extra, price)
    if not is_keyed(value, shape, extra) or not all([is_from(pot, 0) for pot in value.values()]):
        return False
    game = Game(shape, extra)
    pots = {state: value[used] for state, used in zip(game.states, all_used(len(shape), extra))}
    return is_held(game, price[0], price[1], pots)


def is_order(value, shape):
    """Whether any value is a pair of a pot and of the record that is to be moved."""
    return is_pair(value) and is_from(value[0], 0) and is_between(value[1], 0, len(shape) - 1)


def is_pressing(shape, extra, price, value):
    """Whether any value is a pressing paper for the price."""
    check_duel(shape, extra, price)
    if not is_keyed(value, shape, extra) or not all([is_order(order, shape) for order in value.values()]):
        return False
    game = Game(shape, extra)
    pots = {}
    records = {}
    for state, used in zip(game.states, all_used(len(shape), extra)):
        pots[state], records[state] = value[used]
    return is_pressed(game, price[0], price[1], pots, records)


def lowest(num, den):
    """The pair in lowest terms, den being above 0."""
    one, other = num, den
    while other > 0:
        one, other = other, one % other
    return num // one, den // one


def duel_price(shape, extra):
    """The price for which there is a paper of either kind, in lowest terms."""
    check_shape(shape)
    check_extra(extra)
    check_size(shape, extra, MOST_PRICED)
    copies, moves = price_of(Game(shape, extra).turns())
    return lowest(copies, moves)
