"""Beats: every rule is asked once, one behind another."""

from hushrules.books import beginnings
from hushrules.checks import LONGEST_LEFT, is_below, want_off, want_rule, want_state
from hushrules.errors import NoOrder


def may_do(book, state, rule):
    """Whether the rule is awake in this state, and its test holds."""
    want_state(book, state)
    want_rule(book, rule)
    values, left = state
    return is_ready(book, rule, values, left)


def beat(book, state, *, order=None, off=()):
    """The rules that did, in the order in which they did, and the state then."""
    want_state(book, state)
    if order is not None and not is_order(book, order):
        raise NoOrder("no order of the book's rules")
    want_off(book, off)
    return step(book, state, own_order(book) if order is None else order, off)


def ahead(book, state):
    """All states from which a beat leads to this one, in order."""
    want_state(book, state)
    order = own_order(book)
    return [other for other in all_states(book) if step(book, other, order, ())[1] == state]


def is_order(book, thing):
    many = len(book.rules)
    if not isinstance(thing, tuple) or not all([is_below(rule, many) for rule in thing]):
        return False
    return sorted(thing) == list(range(many))


def own_order(book):
    return tuple(range(len(book.rules)))


def all_states(book):
    """All states of the book, in order."""
    lefts = [()]
    for rule in book.rules:
        lefts = [left + (beats,) for left in lefts for beats in range(LONGEST_LEFT + 1)]
    return [(values, left) for values in beginnings(book) for left in lefts]


def step(book, state, order, off):
    """A beat of what has been looked at already."""
    values = list(state[0])
    left = list(state[1])
    done = []
    for rule in order:
        if rule not in off and is_ready(book, rule, values, left):
            carry_out(book, rule, values, left)
            done.append(rule)
    return tuple(done), ended(values, left)


def ended(values, left):
    """The state at a beat's end: each rule that is hushed is so for a beat less."""
    return (tuple(values), tuple([max(0, beats - 1) for beats in left]))


def is_ready(book, rule, values, left):
    if left[rule] > 0:
        return False
    for condition in book.rules[rule][0]:
        if not is_so(condition, values, left):
            return False
    return True


def is_so(condition, values, left):
    word = condition[0]
    if word == "hushed":
        return left[condition[1]] > 0
    if word == "awake":
        return left[condition[1]] == 0
    stands = values[condition[1]]
    place = condition[2]
    if word == "is":
        return stands == place
    if word == "not":
        return stands != place
    return stands < place


def carry_out(book, rule, values, left):
    """Does what the rule does, to the values and to how long each rule is hushed."""
    test, changes, hushes, wakes = book.rules[rule]
    for word, wheel, place in changes:
        start = values[wheel] if word == "turn" else 0
        values[wheel] = (start + place) % book.wheels[wheel]
    for other, beats in hushes:
        left[other] = max(left[other], beats)
    for other in wakes:
        left[other] = 0
