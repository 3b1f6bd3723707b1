"""What is told of all beginnings, by walking alone, and papers with things in them put otherwise."""

import functools
import itertools

from hushrules.books import Book
from tests.samples import ANY_THINGS, COUNTER, DESK, WATCH, walk

MOST = 10 ** 60 - 1
NO_NUMBERS = [-1, -(10 ** 59), 10 ** 60, 10 ** 79, True, False, None, "0", [0], (0,), COUNTER, WATCH, DESK]


def all_values(book):
    return list(itertools.product(*[range(places) for places in book.wheels]))


def awake(book, values):
    return (values, (0,) * len(book))


class Line:
    """The run of a beginning, walked until a state comes again."""

    def __init__(self, book, values, off=()):
        far = 8
        while True:
            rows = walk(book, awake(book, values), far, off=off)
            states = [state for state, _ in rows]
            many = next((n for n, state in enumerate(states) if state in states[:n]), None)
            if many is not None:
                break
            far *= 2
        self.states = states[:many]
        self.dones = [done for _, done in rows[:many]]
        self.begin = states.index(states[many])

    def at(self, n):
        if n < len(self.states):
            return n
        return self.begin + (n - self.begin) % len(self.states[self.begin:])

    def state(self, n):
        return self.states[self.at(n)]

    def done(self, n):
        return self.dones[self.at(n)]

    def keeps(self, wish):
        word, *parts = wish
        if word == "quiet":
            return not any(self.dones[self.begin:])
        if word == "never":
            return not any(parts[0] in done for done in self.dones)
        if word == "does":
            return any(parts[0] in done for done in self.dones)
        return {values[parts[0]] for values, _ in self.states[self.begin:]} == {parts[1]}

    def saw(self, sighting):
        word, n, *parts = sighting
        if word == "stood":
            return self.state(n)[0][parts[0]] == parts[1]
        return (parts[0] in self.done(n)) is (word == "did")


def lines(book, off=()):
    """The run of each beginning, by its values; nobody changes it, as it is kept."""
    return kept_lines(book.wheels, book.rules, off)


@functools.lru_cache(maxsize=64)
def kept_lines(wheels, rules, off):
    book = Book(wheels, rules)
    return {values: Line(book, values, off) for values in all_values(book)}


def strict(thing):
    """A text by which truths and numbers, lists and tuples are unlike, as they are not by ==."""
    return repr(thing)


def is_state(book, thing):
    states = [strict((values, left)) for values in all_values(book) for left in
              itertools.product(range(3), repeat=len(book))]
    return strict(thing) in states


def same_but_equal(thing):
    """All things that differ from this in one place, where a truth stands for its number or a list for a tuple."""
    if type(thing) is tuple:
        yield list(thing)
        for n, part in enumerate(thing):
            for other in same_but_equal(part):
                yield thing[:n] + (other,) + thing[n + 1:]
    elif thing in (0, 1) and type(thing) is int:
        yield bool(thing)


def twisted(thing, more=()):
    """Things that differ from this one at one place: put otherwise, left out, put in, put twice."""
    yield from [None, COUNTER, WATCH, DESK, [thing], (thing,), ()]
    if type(thing) is int:
        yield from [thing + 1, thing - 1, thing + 10 ** 60, str(thing), bool(thing), not thing]
    elif type(thing) is str:
        yield from [thing + "s", thing.upper(), "", 0, "never", "does", "off", "none", "clash", "alike", "parted",
                    "free", "matters"]
    elif type(thing) is tuple:
        yield list(thing)
        yield thing[::-1]
        for other in more:
            yield thing + (other,)
        for n, part in enumerate(thing):
            yield thing[:n] + thing[n + 1:]
            yield thing[:n] + (part,) + thing[n:]
            for other in twisted(part, more):
                yield thing[:n] + (other,) + thing[n + 1:]


def no_papers(*heads):
    """Any things, also behind the heads of papers; none of them is a paper of a book with a wheel of more than a place."""
    parts = [*ANY_THINGS, "never", ("never",), (("never", ()),)]
    found = list(ANY_THINGS)
    for head in heads:
        found += [head, (head,), [head], (head, ())]
        found += [(head, part) for part in parts]
        found += [[head, part] for part in parts]
        found += [(head, part, part) for part in parts]
        found += [(head, part, ()) for part in parts]
        found += [(head, (), part) for part in parts]
        found += [(head, (part,)) for part in parts]
    return found
