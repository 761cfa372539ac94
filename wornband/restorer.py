"""Restoring: the columns of turns that may have left a strip."""

from wornband.bands import is_row, left_place
from wornband.errors import NoSuchWay
from wornband.marks import agrees
from wornband.tablets import HOLES, TURNS, twisting

# A state is a pair (twist, idle turns that came last); this one is ahead of all turns.
START = (0, 0)


def twisted(tablet, twist):
    """The tablet as it stands where its twist, from 0 on, has come to be this."""
    lay, holes, stand = tablet
    return (lay, holes, (stand + twist if lay == "S" else stand - twist) % HOLES)


def state_behind(tablet, state, turn):
    """The state behind one more turn."""
    twist, idle = state
    return (twist + twisting(tablet, turn), idle + 1 if turn == "i" else 0)


def within(state, loose, bound):
    """Whether a state keeps to the looseness and the bound."""
    twist, idle = state
    return abs(twist) <= bound and idle <= loose


def leaves(tablet, state, turn, mark):
    """Whether the turn that led to this state left a place that agrees with the mark."""
    return agrees(left_place(twisted(tablet, state[0]), turn), mark)


def onward(tablet, mark, loose, bound, state):
    """The turns that may come at a mark, in their order, as pairs (turn, state behind it)."""
    moves = [(turn, state_behind(tablet, state, turn)) for turn in TURNS]
    return [(turn, after) for turn, after in moves
            if within(after, loose, bound) and leaves(tablet, after, turn, mark)]


def does(tablet, strip, loose, bound, text):
    """Whether a text is a column that may have left the strip."""
    if not is_row(text, len(strip)):
        return False
    state = START
    kept = within(state, loose, bound)
    for turn, mark in zip(text, strip):
        state = state_behind(tablet, state, turn)
        kept = kept and within(state, loose, bound) and leaves(tablet, state, turn, mark)
    return kept


def search(tablet, strip, loose, bound):
    """The states behind 0, 1, 2 .. picks, up to the first list that is empty."""
    lists = [[START] if within(START, loose, bound) else []]
    for mark in strip:
        if lists[-1] == []:
            return lists
        lists.append(states_behind(tablet, mark, loose, bound, lists[-1]))
    return lists


def states_behind(tablet, mark, loose, bound, states):
    """The states to which one more turn leads from these, rising."""
    return sorted({after for state in states for turn, after in onward(tablet, mark, loose, bound, state)})


def tails(tablet, strip, loose, bound):
    """For each list of the search: how many ways lead from each of its states to the strip's end."""
    lists = search(tablet, strip, loose, bound)
    # A search that ends with an empty list ahead of the strip's end has no tails either.
    counts = [{state: 1 for state in lists[-1]}]
    for at in reversed(range(len(lists) - 1)):
        ahead = counts[-1]
        moves = {state: onward(tablet, strip[at], loose, bound, state) for state in lists[at]}
        counts.append({state: sum([ahead[after] for turn, after in moves[state]]) for state in moves})
    return counts[::-1]


def ways(tablet, strip, loose, bound):
    """How many columns do."""
    return tails(tablet, strip, loose, bound)[0].get(START, 0)


def way(tablet, strip, loose, bound, number):
    """The column of this number."""
    counts = tails(tablet, strip, loose, bound)
    if number < 0 or number >= counts[0].get(START, 0):
        raise NoSuchWay(f"no column has the number {number}")
    column = ""
    state = START
    for at, mark in enumerate(strip):
        turn, state, number = chosen(onward(tablet, mark, loose, bound, state), counts[at + 1], number)
        column += turn
    return column


def chosen(moves, counts, number):
    """The move in whose tails a number falls: its turn, its state, and the number among these tails."""
    at = 0
    while number >= counts[moves[at][1]]:
        number -= counts[moves[at][1]]
        at += 1
    turn, state = moves[at]
    return (turn, state, number)


def rank(tablet, strip, loose, bound, text):
    """The number of this column."""
    if not does(tablet, strip, loose, bound, text):
        raise NoSuchWay("this column does not do")
    counts = tails(tablet, strip, loose, bound)
    number = 0
    state = START
    for at, mark in enumerate(strip):
        moves = onward(tablet, mark, loose, bound, state)
        number += sum([counts[at + 1][after] for turn, after in moves if comes_ahead(turn, text[at])])
        state = state_behind(tablet, state, text[at])
    return number


def comes_ahead(turn, other):
    """Whether a turn comes ahead of another one where columns are ranked."""
    return TURNS.index(turn) < TURNS.index(other)


def least(tablet, strip, loose):
    """The least bound for which some column does, or None."""
    # Asked first, so that a strip for which nothing does isn't searched for each bound in turn.
    if search(tablet, strip, loose, len(strip))[-1] == []:
        return None
    bound = 0
    while search(tablet, strip, loose, bound)[-1] == []:
        bound += 1
    return bound


def restore(tablet, strip, loose):
    """The restoring: the least bound, its first column, and the search that shows that no lesser bound does."""
    bound = least(tablet, strip, loose)
    if bound is None:
        return (None, None, search(tablet, strip, loose, len(strip)))
    lists = search(tablet, strip, loose, bound - 1) if bound > 0 else []
    return (bound, way(tablet, strip, loose, bound, 0), lists)
