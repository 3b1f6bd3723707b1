"""Runs: beat behind beat, told for ever by the round to which each run comes."""

from hushrules.beats import own_order, step
from hushrules.checks import want_beats, want_off, want_rule, want_state


def state_at(book, state, beats, *, off=()):
    """The state ahead of the beat of this number."""
    want_state(book, state)
    want_beats(beats, 0)
    want_off(book, off)
    states, dones, begin = trail(book, state, off)
    return states[number_at(begin, len(states), beats)]


def round_of(book, state, *, off=()):
    """The beat whose state comes again, and how many beats behind it."""
    want_state(book, state)
    want_off(book, off)
    states, dones, begin = trail(book, state, off)
    return (begin, len(states) - begin)


def quiet_from(book, state, *, off=()):
    """The first beat from which on no rule ever does, or None."""
    want_state(book, state)
    want_off(book, off)
    states, dones, begin = trail(book, state, off)
    behind_last = max([number + 1 for number, done in enumerate(dones) if len(done) > 0], default=0)
    # What is done within the round is done again and again.
    return None if behind_last > begin else behind_last


def times(book, state, rule, beats, *, off=()):
    """How often the rule does at the beats from 0 to below this one."""
    want_state(book, state)
    want_rule(book, rule)
    want_beats(beats, 0)
    want_off(book, off)
    sooner, around, begin, length = doings(book, state, rule, off)
    if beats < begin:
        return count_below(sooner, beats)
    rounds, rest = divmod(beats - begin, length)
    return len(sooner) + rounds * len(around) + count_below(around, begin + rest)


def nth(book, state, rule, many=1, *, off=()):
    """The beat at which the rule does for so many times, or None."""
    want_state(book, state)
    want_rule(book, rule)
    want_beats(many, 1)
    want_off(book, off)
    sooner, around, begin, length = doings(book, state, rule, off)
    if many <= len(sooner):
        return sooner[many - 1]
    if len(around) == 0:
        return None
    rounds, rest = divmod(many - 1 - len(sooner), len(around))
    return around[rest] + rounds * length


def went_on(book, state, beats, off):
    """The state so many beats later, and a tuple of how often each rule did meanwhile."""
    order = own_order(book)
    numbers = {}
    dones = []
    here = state
    # A few beats are walked alone, as the round may be far.
    while here not in numbers and len(dones) < beats:
        numbers[here] = len(dones)
        done, here = step(book, here, order, off)
        dones.append(done)
    if len(dones) == beats:
        return here, tally(book, dones)
    around = dones[numbers[here]:]
    rounds, rest = divmod(beats - len(dones), len(around))
    walked = tally(book, dones + around[:rest])
    again = tally(book, around)
    counts = tuple([once + rounds * more for once, more in zip(walked, again)])
    return list(numbers)[numbers[here] + rest], counts


def tally(book, dones):
    """How often each rule did."""
    return tuple([len([done for done in dones if rule in done]) for rule in own_order(book)])


def trail(book, state, off):
    """The states until one comes again, what was done at each, and the number of the one that comes again."""
    return trail_along(ways_from(book, [state], off), state)


def ways_from(book, starts, off):
    """Of each state that the runs from these come to: what is done at the beat from it, and the state then."""
    order = own_order(book)
    ways = {}
    for start in starts:
        here = start
        while here not in ways:
            ways[here] = step(book, here, order, off)
            here = ways[here][1]
    return ways


def trail_along(ways, state):
    """As trail, where the ways are known."""
    numbers = {}
    dones = []
    here = state
    while here not in numbers:
        numbers[here] = len(numbers)
        done, here = ways[here]
        dones.append(done)
    return list(numbers), dones, numbers[here]


def number_at(begin, many, beats):
    """Which of the many states of a trail stands ahead of the beat, far as that may be."""
    return beats if beats < begin else begin + (beats - begin) % (many - begin)


def doings(book, state, rule, off):
    """The beats at which the rule does, those ahead of the round and those of its first time, and the round."""
    states, dones, begin = trail(book, state, off)
    found = [number for number, done in enumerate(dones) if rule in done]
    sooner = [number for number in found if number < begin]
    return sooner, found[len(sooner):], begin, len(states) - begin


def count_below(numbers, bound):
    return len([number for number in numbers if number < bound])
