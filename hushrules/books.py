"""Books: wheels and rules, their text, and the states that a book may be in."""

from hushrules.checks import is_below, is_rising, is_state_of, is_values, is_wheels, is_within
from hushrules.errors import NoBook, NoState

MOST_RULES = 5
MOST_CONDITIONS = 4
MOST_CHANGES = 3
MOST_HUSHES = 5
MOST_WAKES = 5
LEAST_HUSH = 1
LONGEST_HUSH = 3


class Book:
    """A few wheels, and the rules that turn them and hush and wake each other."""

    def __init__(self, wheels, rules=()):
        if not is_wheels(wheels) or not is_row(rules, MOST_RULES):
            raise NoBook(-1)
        for number, rule in enumerate(rules):
            if not is_rule(wheels, len(rules), rule):
                raise NoBook(number)
        self.wheels = wheels
        self.rules = rules

    def __eq__(self, other):
        return isinstance(other, Book) and self.wheels == other.wheels and self.rules == other.rules

    def __len__(self):
        return len(self.rules)

    def __repr__(self):
        return f"Book({len(self.wheels)}, {len(self.rules)})"

    def __str__(self):
        return "\n".join(book_lines(self.wheels, self.rules))


def is_row(thing, most):
    return isinstance(thing, tuple) and len(thing) <= most


def is_rule(wheels, many, thing):
    """Whether it is a rule of such wheels and so many rules."""
    if not isinstance(thing, tuple) or len(thing) != 4:
        return False
    test, changes, hushes, wakes = thing
    if not is_row(test, MOST_CONDITIONS) or not is_row(changes, MOST_CHANGES):
        return False
    if not all([is_condition(wheels, many, condition) for condition in test]):
        return False
    if not all([is_change(wheels, change) for change in changes]):
        return False
    return is_hushes(many, hushes) and is_wakes(many, wakes, hushes)


def is_condition(wheels, many, thing):
    return is_spot(wheels, thing, ("is", "not", "below")) or is_moment(many, thing)


def is_moment(many, thing):
    """Whether it is a condition on how a rule is at that moment."""
    if not isinstance(thing, tuple) or len(thing) != 2:
        return False
    return thing[0] in ("hushed", "awake") and is_below(thing[1], many)


def is_change(wheels, thing):
    return is_spot(wheels, thing, ("put", "turn"))


def is_spot(wheels, thing, words):
    """Whether it is one of the words, with a wheel and a place of that wheel."""
    if not isinstance(thing, tuple) or len(thing) != 3:
        return False
    word, wheel, place = thing
    return word in words and is_below(wheel, len(wheels)) and is_below(place, wheels[wheel])


def is_hushes(many, thing):
    if not is_row(thing, MOST_HUSHES) or not all([is_hush(pair) for pair in thing]):
        return False
    return is_rising(tuple([rule for rule, beats in thing]), many)


def is_hush(thing):
    # The rule of the pair is looked at with those of the other pairs, as they must rise.
    return isinstance(thing, tuple) and len(thing) == 2 and is_within(thing[1], LEAST_HUSH, LONGEST_HUSH)


def is_wakes(many, thing, hushes):
    if not is_row(thing, MOST_WAKES) or not is_rising(thing, many):
        return False
    return not any([rule in thing for rule, beats in hushes])


def book_lines(wheels, rules):
    """The lines of a book's text."""
    return ["wheels " + spaced(wheels)] + [rule_line(rule) for rule in rules]


def rule_line(rule):
    test, changes, hushes, wakes = rule
    parts = [
        [spaced(condition) for condition in test],
        [spaced(change) for change in changes],
        [f"{other} for {beats}" for other, beats in hushes],
        [str(other) for other in wakes],
    ]
    return " / ".join([", ".join(part) if len(part) > 0 else "-" for part in parts])


def spaced(row):
    return " ".join([str(thing) for thing in row])


def beginnings(book):
    """All values of the book, in order."""
    found = [()]
    for places in book.wheels:
        found = [values + (place,) for values in found for place in range(places)]
    return found


def is_state(book, thing):
    return is_state_of(book, thing)


def begun(book, values):
    """The state of these values in which no rule is hushed."""
    if not is_values(book.wheels, values):
        raise NoState("no values of the book")
    return (values, (0,) * len(book.rules))
