"""Lots: what the runs from all beginnings come to, and rules that never do."""

from hushrules.beats import own_order, step
from hushrules.books import beginnings, begun
from hushrules.checks import is_beats, is_headed, is_state_of, is_values, want_off, want_rule
from hushrules.runs import number_at, trail, trail_along, ways_from


def come_to(book, *, off=()):
    """All states that stand ahead of some beat of the runs from all beginnings, in order."""
    want_off(book, off)
    return sorted(all_ways(book, off))


def never(book, rule):
    """A paper: that the rule never does, or the least beginning from which it does, and its first beat."""
    want_rule(book, rule)
    ways = all_ways(book, ())
    for values in beginnings(book):
        first = first_beat_of(rule, ways, begun(book, values))
        if first is not None:
            return ("does", values, first)
    return ("never", tuple(sorted(ways)))


def shows_never(book, rule, paper):
    """Whether the paper shows that the rule never does, or that it does."""
    want_rule(book, rule)
    if is_headed(paper, "never", 2):
        ways = lot_ways(book, paper[1])
        return ways is not None and not any([rule in done for done, then in ways.values()])
    if is_headed(paper, "does", 3):
        return does_at(book, rule, paper[1], paper[2])
    return False


def all_starts(book):
    """The states of all beginnings, in order."""
    return [begun(book, values) for values in beginnings(book)]


def all_ways(book, off):
    return ways_from(book, all_starts(book), off)


def first_beat_of(rule, ways, state):
    """The first beat of the run at which the rule does, or None."""
    states, dones, begin = trail_along(ways, state)
    for number, done in enumerate(dones):
        if rule in done:
            return number
    return None


def lot_ways(book, thing):
    """Of each state of a lot: what is done at the beat from it, and the state then. None if it is no lot."""
    if not isinstance(thing, tuple) or not all([is_state_of(book, state) for state in thing]):
        return None
    order = own_order(book)
    ways = {state: step(book, state, order, ()) for state in thing}
    if not all([start in ways for start in all_starts(book)]):
        return None
    return ways if all([then in ways for done, then in ways.values()]) else None


def does_at(book, rule, values, beats):
    """Whether these are a beginning and a beat of its run, at which the rule does."""
    if not is_values(book.wheels, values) or not is_beats(beats, 0):
        return False
    states, dones, begin = trail(book, begun(book, values), ())
    return rule in dones[number_at(begin, len(states), beats)]
