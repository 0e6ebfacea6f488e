"""Any way of keeping labels: what a keeper has to pay in moves, and papers that show it."""

from asifcopied.checks import is_between, is_from, is_pair
from asifcopied.errors import BadItems, BadLater, BadLeft, BadMany, BadPlace, BadPrice, BadState

MOST_LABELS = 7
MOST_LEFT = 59


def check_many(many):
    """Refuse what is no number of labels."""
    if not is_from(many, 1):
        raise BadMany("many is a number from 1 on")


def is_state(value, many):
    """Whether any value is an ascending tuple of one or more unlike labels below many."""
    check_many(many)
    if not isinstance(value, tuple) or not value:
        return False
    if not all([is_between(label, 0, many - 1) for label in value]):
        return False
    return all([value[at] < value[at + 1] for at in range(len(value) - 1)])


def check_state(many, state):
    """Refuse a bad many, and then what is no state."""
    if not is_state(state, many):
        raise BadState("a state is an ascending tuple of labels below many")


def check_place(state, place):
    """Refuse what is no place of the state."""
    if not is_between(place, 0, len(state) - 1):
        raise BadPlace("a place is a number from 0 on below the length of the state")


def is_later(value, many, state):
    """Whether any value is a state of one label more."""
    return is_state(value, many) and len(value) == len(state) + 1


def moves_to(state, place, later):
    """How many elder items get another label if a new one comes behind the place."""
    elder = later[:place + 1] + later[place + 2:]
    return len([1 for one, other in zip(state, elder) if one != other])


def price_between(many, state, place, later):
    """What the turn from the state to the later one costs."""
    check_state(many, state)
    check_place(state, place)
    if not is_later(later, many, state):
        raise BadLater("a later state is a state of one label more")
    return moves_to(state, place, later)


def free_behind(many, state, place):
    """How many labels are free right behind the item at the place."""
    end = state[place + 1] if place + 1 < len(state) else many
    return end - state[place] - 1


def gap_behind(many, state, place):
    """How many labels are free right behind the item at the place."""
    check_state(many, state)
    check_place(state, place)
    return free_behind(many, state, place)


def tight_place(many, state, left):
    """The first place behind which too few labels are free for so many puts, None if there is none."""
    check_state(many, state)
    if not is_between(left, 0, MOST_LEFT):
        raise BadLeft("left is a number from 0 to 59")
    for place in range(len(state)):
        if free_behind(many, state, place) < (1 << left) - 1:
            return place
    return None


def halfway(many, state, place):
    """The later state without a move, the new label in the middle of the gap, None if there is no gap."""
    check_state(many, state)
    check_place(state, place)
    free = free_behind(many, state, place)
    if free == 0:
        return None
    return state[:place + 1] + (state[place] + (free + 1) // 2,) + state[place + 1:]


def check_game(many, items):
    """Refuse what is too great for a search, and what is no number of items."""
    if not is_between(many, 1, MOST_LABELS):
        raise BadMany("many is a number from 1 to 7")
    if not is_between(items, 1, many):
        raise BadItems("items is a number from 1 to many")


def states_of(many, size):
    """The list of all states of so many labels."""
    masks = range(1 << many)
    states = [tuple([label for label in range(many) if mask >> label & 1]) for mask in masks]
    return [state for state in states if len(state) == size]


def cheapest(state, place, laters, bounds):
    """The pair of the least total of a turn and what comes behind it, and of the later state for it."""
    totals = [(moves_to(state, place, later) + bounds[later], later) for later in laters]
    return min(totals)


def solved(many, items):
    """The dict from all states up to so many items to pairs: what is paid from there on, and the best turns.

    The turns are pairs of a total and a later state, one for each place.
    """
    answers = {state: (0, ()) for state in states_of(many, items)}
    for size in range(items - 1, 0, -1):
        laters = states_of(many, size + 1)
        bounds = {later: answers[later][0] for later in laters}
        for state in states_of(many, size):
            turns = [cheapest(state, place, laters, bounds) for place in range(size)]
            answers[state] = (max(turns)[0], tuple(turns))
    return answers


def first_state(many, answers):
    """The state of one label from which the least is paid."""
    return min([(answers[state][0], state) for state in states_of(many, 1)])[1]


def least_price(many, items):
    """What a keeper pays at the most, and a writer can make any keeper pay."""
    check_game(many, items)
    answers = solved(many, items)
    return answers[first_state(many, answers)][0]


def keeping(many, items):
    """A keeper's table for the least price."""
    check_game(many, items)
    answers = solved(many, items)
    table = {}
    for state, (bound, turns) in answers.items():
        table[state] = (bound, tuple([later for _, later in turns]))
    return first_state(many, answers), table


def dearest(turns):
    """The place that makes the keeper pay the most, None if no turn is left."""
    if not turns:
        return None
    return max([(turns[place][0], place) for place in range(len(turns))])[1]


def forcing(many, items):
    """A writer's table for the least price."""
    check_game(many, items)
    return {state: (bound, dearest(turns)) for state, (bound, turns) in solved(many, items).items()}


def check_price(price):
    """Refuse what is no price."""
    if not is_from(price, 0):
        raise BadPrice("a price is a number from 0 on")


def is_answered(many, items, table, state):
    """Whether a keeper's table tells for the state what to do at each place, within its bound."""
    if not is_state(state, many) or len(state) > items or not is_pair(table[state]):
        return False
    bound, laters = table[state]
    if not is_from(bound, 0) or not isinstance(laters, tuple):
        return False
    if len(state) == items:
        return laters == ()
    if len(laters) != len(state):
        return False
    for place, later in enumerate(laters):
        if not is_later(later, many, state) or later not in table:
            return False
        if not is_pair(table[later]) or not is_from(table[later][0], 0):
            return False
        if moves_to(state, place, later) + table[later][0] > bound:
            return False
    return True


def is_keeping(many, items, price, value):
    """Whether any value is a keeper's table that keeps the price."""
    check_game(many, items)
    check_price(price)
    if not is_pair(value) or not isinstance(value[1], dict):
        return False
    begin, table = value
    if not is_state(begin, many) or len(begin) != 1 or begin not in table:
        return False
    if not all([is_answered(many, items, table, state) for state in table]):
        return False
    return table[begin][0] <= price


def is_named(many, items, table, state):
    """Whether a writer's table, of bounds and places, names a place for the state that forces its bound."""
    bound, place = table[state]
    if len(state) == items:
        return bound == 0 and place is None
    if not is_between(place, 0, len(state) - 1):
        return False
    laters = states_of(many, len(state) + 1)
    return all([moves_to(state, place, later) + table[later][0] >= bound for later in laters])


def is_forcing(many, items, price, value):
    """Whether any value is a writer's table that forces the price."""
    check_game(many, items)
    check_price(price)
    states = [state for size in range(1, items + 1) for state in states_of(many, size)]
    if not isinstance(value, dict) or len(value) != len(states):
        return False
    if not all([is_state(state, many) and len(state) <= items for state in value]):
        return False
    if not all([is_pair(pair) and is_from(pair[0], 0) for pair in value.values()]):
        return False
    if not all([is_named(many, items, value, state) for state in states]):
        return False
    return all([value[state][0] >= price for state in states_of(many, 1)])
