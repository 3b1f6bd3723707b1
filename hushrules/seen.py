"""Seen: which beginnings a seen run lets be, or the fewest sightings that clash."""

from hushrules.books import beginnings, begun, is_row
from hushrules.checks import is_beats, is_below, is_headed, is_rising, is_values
from hushrules.errors import NoSeen
from hushrules.lots import all_ways
from hushrules.offs import rising_rows
from hushrules.runs import number_at, trail_along

MOST_SIGHTINGS = 8


def began(book, seen):
    """All beginnings by whose runs all sightings are so, in order."""
    want_seen(book, seen)
    rights = rights_of(book, seen)
    return [values for values in beginnings(book) if len(rights[values]) == len(seen)]


def clash(book, seen):
    """A paper: the first clash of the fewest sightings, and what lets be each row of one fewer; or None."""
    want_seen(book, seen)
    rights = rights_of(book, seen)
    numbers = list(range(len(seen)))
    for many in range(1, len(seen) + 1):
        for row in rising_rows(numbers, many):
            if first_letting(rights, row) is None:
                return ("clash", row, tuple([first_letting(rights, fewer) for fewer in rising_rows(numbers, many - 1)]))
    return None


def shows_clash(book, seen, paper):
    """Whether the paper shows sightings that clash, and that no fewer do."""
    want_seen(book, seen)
    if not is_headed(paper, "clash", 3):
        return False
    word, row, lets = paper
    rights = rights_of(book, seen)
    if not is_rising(row, len(seen)) or first_letting(rights, row) is not None:
        return False
    fewer = rising_rows(list(range(len(seen))), len(row) - 1)
    if not isinstance(lets, tuple) or len(lets) != len(fewer):
        return False
    if not all([is_values(book.wheels, values) for values in lets]):
        return False
    return all([is_let(rights[values], numbers) for values, numbers in zip(lets, fewer)])


def want_seen(book, thing):
    if not is_row(thing, MOST_SIGHTINGS):
        raise NoSeen(-1)
    for number, sighting in enumerate(thing):
        if not is_sighting(book, sighting):
            raise NoSeen(number)


def is_sighting(book, thing):
    if is_headed(thing, "stood", 4):
        word, beats, wheel, place = thing
        return is_beats(beats, 0) and is_below(wheel, len(book.wheels)) and is_below(place, book.wheels[wheel])
    if is_headed(thing, "did", 3) or is_headed(thing, "rested", 3):
        return is_beats(thing[1], 0) and is_below(thing[2], len(book.rules))
    return False


def rights_of(book, seen):
    """Of each beginning, in order: the numbers of the sightings that are so by its run."""
    ways = all_ways(book, ())
    rights = {}
    for values in beginnings(book):
        states, dones, begin = trail_along(ways, begun(book, values))
        rights[values] = [
            number for number, sighting in enumerate(seen) if was_so(sighting, states, dones, begin)
        ]
    return rights


def was_so(sighting, states, dones, begin):
    word, beats, number = sighting[:3]
    at = number_at(begin, len(states), beats)
    if word == "stood":
        return states[at][0][number] == sighting[3]
    return (number in dones[at]) == (word == "did")


def first_letting(rights, numbers):
    """The least beginning by which the sightings of these numbers are all so, or None."""
    for values in rights:
        if is_let(rights[values], numbers):
            return values
    return None


def is_let(right, numbers):
    return all([number in right for number in numbers])
