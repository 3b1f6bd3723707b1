"""Looks at what is handed in, whatever thing it is, and refuses what is not of the kind that is wanted."""

from hushrules.errors import NoBeat, NoOff, NoRule, NoState

MOST_WHEELS = 3
LEAST_PLACES = 2
MOST_PLACES = 4
MOST_VALUES = 24
LONGEST_LEFT = 2
GREATEST_BEAT = 10 ** 60 - 1


def is_whole(thing):
    # Python counts the truths among its ints.
    return isinstance(thing, int) and not isinstance(thing, bool)


def is_within(thing, least, most):
    return is_whole(thing) and least <= thing <= most


def is_below(thing, many):
    return is_within(thing, 0, many - 1)


def is_rising(thing, many):
    """Whether it is a tuple of numbers from 0 to below many, each greater than the one ahead of it."""
    if not isinstance(thing, tuple) or not all([is_below(number, many) for number in thing]):
        return False
    return all([one < other for one, other in zip(thing, thing[1:])])


def is_wheels(thing):
    if not isinstance(thing, tuple) or not 1 <= len(thing) <= MOST_WHEELS:
        return False
    if not all([is_within(places, LEAST_PLACES, MOST_PLACES) for places in thing]):
        return False
    multiplied = 1
    for places in thing:
        multiplied = multiplied * places
    return multiplied <= MOST_VALUES


def is_values(wheels, thing):
    if not isinstance(thing, tuple) or len(thing) != len(wheels):
        return False
    return all([is_below(place, places) for place, places in zip(thing, wheels)])


def is_left(many, thing):
    """Whether it tells of so many rules for how many beats more each is hushed."""
    if not isinstance(thing, tuple) or len(thing) != many:
        return False
    return all([is_within(beats, 0, LONGEST_LEFT) for beats in thing])


def is_state_of(book, thing):
    if not isinstance(thing, tuple) or len(thing) != 2:
        return False
    return is_values(book.wheels, thing[0]) and is_left(len(book.rules), thing[1])


def is_beats(thing, least):
    return is_within(thing, least, GREATEST_BEAT)


def is_headed(thing, word, many):
    """Whether it is a tuple of so many things, the first one this word."""
    return isinstance(thing, tuple) and len(thing) == many and thing[0] == word


def want_state(book, thing):
    if not is_state_of(book, thing):
        raise NoState("no state of the book")


def want_rule(book, thing):
    if not is_below(thing, len(book.rules)):
        raise NoRule(thing)


def want_off(book, thing):
    if not is_rising(thing, len(book.rules)):
        raise NoOff("no rising tuple of the book's rules")


def want_beats(thing, least):
    if not is_beats(thing, least):
        raise NoBeat(thing)
