"""Put off: wishes, and the fewest rules that must be put off for one to hold."""

from hushrules.books import beginnings, begun, is_spot
from hushrules.checks import is_below, is_headed, is_rising, is_values, want_off
from hushrules.errors import NoWish
from hushrules.lots import all_ways
from hushrules.runs import trail, trail_along


def holds(book, wish, *, off=()):
    """Whether the wish holds where these rules are put off."""
    want_wish(book, wish)
    want_off(book, off)
    return first_break(book, wish, off) is None


def fewest(book, wish):
    """A paper: the first choice by which the wish holds, and what breaks it by each choice ahead; or that none is."""
    want_wish(book, wish)
    breaks = []
    for choice in choices(book, wish):
        broken = first_break(book, wish, choice)
        if broken is None:
            return ("off", choice, tuple(breaks))
        breaks.append(broken)
    return ("none", tuple(breaks))


def shows_fewest(book, wish, paper):
    """Whether the paper shows which rules are the fewest for the wish to hold, or that it holds by none."""
    want_wish(book, wish)
    every = choices(book, wish)
    if is_headed(paper, "none", 2):
        return are_breaks(book, wish, every, paper[1])
    if not is_headed(paper, "off", 3):
        return False
    word, rules, breaks = paper
    # A truth is equal to a number, so whether there are numbers in it is asked first.
    if not is_rising(rules, len(book.rules)) or rules not in every:
        return False
    if not are_breaks(book, wish, every[:every.index(rules)], breaks):
        return False
    return first_break(book, wish, rules) is None


def want_wish(book, thing):
    if not is_wish(book, thing):
        raise NoWish("no wish of the book")


def is_wish(book, thing):
    if is_headed(thing, "quiet", 1):
        return True
    if is_headed(thing, "never", 2) or is_headed(thing, "does", 2):
        return is_below(thing[1], len(book.rules))
    return is_spot(book.wheels, thing, ("at",))


def choices(book, wish):
    """All choices for the wish, those of fewer rules ahead."""
    own = wish[1] if wish[0] in ("never", "does") else None
    others = [rule for rule in range(len(book.rules)) if rule != own]
    found = []
    for many in range(len(others) + 1):
        found.extend(rising_rows(others, many))
    return found


def rising_rows(numbers, many):
    """All rising tuples of so many of the numbers, which rise themselves; in order."""
    found = [()]
    for length in range(many):
        found = [row + (number,) for row in found for number in numbers if length == 0 or row[-1] < number]
    return found


def first_break(book, wish, off):
    """The least beginning by whose run the wish breaks, or None."""
    ways = all_ways(book, off)
    for values in beginnings(book):
        states, dones, begin = trail_along(ways, begun(book, values))
        if not is_kept(wish, states, dones, begin):
            return values
    return None


def is_kept(wish, states, dones, begin):
    """Whether the wish holds by the run that goes along these and comes round to the state of the number begin."""
    word = wish[0]
    if word == "quiet":
        return not any([len(done) > 0 for done in dones[begin:]])
    if word == "at":
        return all([values[wish[1]] == wish[2] for values, left in states[begin:]])
    does = any([wish[1] in done for done in dones])
    return does if word == "does" else not does


def are_breaks(book, wish, rows, thing):
    """Whether it is a tuple of beginnings, one for each of these choices, that breaks the wish by it."""
    if not isinstance(thing, tuple) or len(thing) != len(rows):
        return False
    return all([is_break(book, wish, row, values) for row, values in zip(rows, thing)])


def is_break(book, wish, off, values):
    if not is_values(book.wheels, values):
        return False
    states, dones, begin = trail(book, begun(book, values), off)
    return not is_kept(wish, states, dones, begin)
