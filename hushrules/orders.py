"""Orders: whether the order in which rules are asked ever matters."""

from hushrules.beats import carry_out, ended, is_order, is_ready, own_order, step
from hushrules.books import beginnings, begun
from hushrules.checks import is_beats, is_headed, is_values, want_state
from hushrules.lots import lot_ways
from hushrules.runs import state_at


def outcomes(book, state):
    """All states to which a beat leads by some order, in order."""
    want_state(book, state)
    return sorted(ends_of(book, state))


def orders(book):
    """A paper: that orders never matter, or the least beginning by which one does, the first beat, the least order."""
    passed = {}
    for values in beginnings(book):
        here = begun(book, values)
        beats = 0
        # A state that was passed already has but one outcome, and so have all that come behind it.
        while here not in passed:
            if len(ends_of(book, here)) > 1:
                return ("matters", values, beats, first_order_elsewhere(book, here))
            passed[here] = True
            here = own_end(book, here)
            beats += 1
    return ("free", tuple(sorted(passed)))


def shows_orders(book, paper):
    """Whether the paper shows that orders never matter, or that one does."""
    if is_headed(paper, "free", 2):
        return is_free_lot(book, paper[1])
    if is_headed(paper, "matters", 4):
        return is_elsewhere(book, paper[1], paper[2], paper[3])
    return False


def own_end(book, state):
    """The state to which a beat leads by the book's own order."""
    return step(book, state, own_order(book), ())[1]


def ends_of(book, state):
    """As outcomes, in no told order, each once."""
    # Orders that have asked the same rules, and come to the same by them, go on alike: they are walked together.
    midways = {((), state): True}
    for length in range(len(book.rules)):
        further = {}
        for asked, midway in midways:
            for rule in own_order(book):
                if rule not in asked:
                    further[(tuple(sorted(asked + (rule,))), ask(book, rule, midway))] = True
        midways = further
    ends = {ended(values, left): True for everything, (values, left) in midways}
    return list(ends)


def ask(book, rule, midway):
    """What stands within a beat behind this rule, of what stands there ahead of it."""
    values, left = midway
    if not is_ready(book, rule, values, left):
        return midway
    changed = list(values)
    changed_left = list(left)
    carry_out(book, rule, changed, changed_left)
    return (tuple(changed), tuple(changed_left))


def all_orders(book):
    """All orders of the book's rules, in order."""
    found = [()]
    for length in range(len(book.rules)):
        found = [order + (rule,) for order in found for rule in own_order(book) if rule not in order]
    return found


def first_order_elsewhere(book, state):
    """The least order by which a beat leads to another state than by the book's own; there must be one."""
    end = own_end(book, state)
    return min([order for order in all_orders(book) if step(book, state, order, ())[1] != end])


def is_free_lot(book, thing):
    """Whether it is a lot each state of which has but one outcome."""
    ways = lot_ways(book, thing)
    if ways is None:
        return False
    for state in ways:
        if len(ends_of(book, state)) > 1:
            return False
    return True


def is_elsewhere(book, values, beats, order):
    """Whether these are a beginning, a beat and an order, by which that beat leads elsewhere than by the book's own."""
    if not is_values(book.wheels, values) or not is_beats(beats, 0) or not is_order(book, order):
        return False
    state = state_at(book, begun(book, values), beats)
    return step(book, state, order, ())[1] != own_end(book, state)
