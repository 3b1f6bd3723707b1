"""Alike: whether two books ever part, from whatever beginning."""

from hushrules.beats import own_order, step
from hushrules.books import beginnings, begun
from hushrules.checks import is_beats, is_headed, is_state_of, is_values
from hushrules.errors import Unlike
from hushrules.lots import all_ways
from hushrules.runs import state_at


def alike(one, other):
    """A paper: that the books are alike, or the least beginning by which they part, and the first beat."""
    want_same_wheels(one, other)
    ways = all_ways(one, ())
    other_ways = all_ways(other, ())
    pairs = {}
    for values in beginnings(one):
        pair = begun_pair(one, other, values)
        beats = 0
        # A pair that is known already comes from a lesser beginning, which never parts, or from this one.
        while pair not in pairs:
            state, other_state = pair
            if state[0] != other_state[0]:
                return ("parted", values, beats)
            pairs[pair] = True
            pair = (ways[state][1], other_ways[other_state][1])
            beats += 1
    return ("alike", tuple(sorted(pairs)))


def shows_alike(one, other, paper):
    """Whether the paper shows that the books are alike, or that they part."""
    want_same_wheels(one, other)
    if is_headed(paper, "alike", 2):
        return is_closed(one, other, paper[1])
    if is_headed(paper, "parted", 3):
        return are_parted(one, other, paper[1], paper[2])
    return False


def want_same_wheels(one, other):
    if one.wheels != other.wheels:
        raise Unlike("the books have other wheels")


def begun_pair(one, other, values):
    return (begun(one, values), begun(other, values))


def is_closed(one, other, thing):
    """Whether it is a tuple of like pairs, in which all beginnings are and what comes behind each."""
    if not isinstance(thing, tuple) or not all([is_like_pair(one, other, pair) for pair in thing]):
        return False
    pairs = {pair: True for pair in thing}
    if not all([begun_pair(one, other, values) in pairs for values in beginnings(one)]):
        return False
    thens = states_behind(one, [state for state, other_state in thing])
    other_thens = states_behind(other, [other_state for state, other_state in thing])
    return all([(thens[state], other_thens[other_state]) in pairs for state, other_state in thing])


def is_like_pair(one, other, thing):
    """Whether it is a pair of a state of the one and a state of the other, of the same values."""
    if not isinstance(thing, tuple) or len(thing) != 2:
        return False
    state, other_state = thing
    return is_state_of(one, state) and is_state_of(other, other_state) and state[0] == other_state[0]


def states_behind(book, states):
    """Of each of these states, the one behind the next beat."""
    order = own_order(book)
    thens = {}
    for state in states:
        # One state may stand in very many pairs.
        if state not in thens:
            thens[state] = step(book, state, order, ())[1]
    return thens


def are_parted(one, other, values, beats):
    """Whether these are a beginning and a beat, ahead of which the values are unlike."""
    if not is_values(one.wheels, values) or not is_beats(beats, 0):
        return False
    state, other_state = begun_pair(one, other, values)
    return state_at(one, state, beats)[0] != state_at(other, other_state, beats)[0]
