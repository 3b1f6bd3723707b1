"""Books, things of all kinds, and a model of runs, for the tests."""

import random

from hushrules.books import Book
from hushrules.desk import Desk
from hushrules.watch import Watch


def rule(test=(), changes=(), hushes=(), wakes=()):
    return (test, changes, hushes, wakes)


def nested(kind, depth):
    thing = kind()
    for _ in range(depth):
        thing = kind([thing])
    return thing


TURN = rule(changes=(("turn", 0, 1),))
COUNTER = Book((3,), (TURN,))
WATCH = Watch(COUNTER, (0,))
DESK = Desk("wheels 3\n- / turn 0 1 / - / -")

ANY_THINGS = [
    0, 1, -1, 5, 24, 10 ** 79, -(10 ** 79), True, False, None,
    "", "0", "is", "a text\nof two lines", "x" * 2000,
    [], (), [0], (0,), ((),), ([],), ((), ()), [[], []], (None,), (None, None), ((None,), (None,)),
    (True,), (False, False), ("is", 0, 1), (("is", 0, 1),), ((0,), (0,), (0,)), ((0,), (0,), None),
    nested(list, 29), nested(tuple, 29), [0] * 30000, (0,) * 30000, ((0,) * 30000, ()), ((), (0,) * 30000),
    COUNTER, (COUNTER,), [COUNTER], (COUNTER, COUNTER), ((COUNTER,), (COUNTER,)), ((0,), (COUNTER,)),
    WATCH, DESK, (WATCH,), [DESK], (WATCH, DESK), ((WATCH,), (DESK,)), ((0,), (WATCH,)), (DESK, 0, 1), (COUNTER, WATCH, DESK),
    ("x", "y"), ("00", "00"), (("0",), ("0",)), ([0], [0]), [(0,), (0,)],
]


def walk(book, state, beats, *, order=None, off=()):
    """(state ahead of it, rules that did) for each beat; hushes are kept as the beat at which a rule is awake again."""
    stands = dict(enumerate(state[0]))
    awake_from = dict(enumerate(state[1]))
    rows = []
    for now in range(beats):
        here = state_of(stands, awake_from, now)
        done = []
        for number in range(len(book)) if order is None else order:
            test, changes, hushes, wakes = book.rules[number]
            if number in off or awake_from[number] > now:
                continue
            if not all(so(condition, stands, awake_from, now) for condition in test):
                continue
            done.append(number)
            for word, wheel, place in changes:
                stands[wheel] = place if word == "put" else (stands[wheel] + place) % book.wheels[wheel]
            for other, long in hushes:
                awake_from[other] = max(awake_from[other], now + long)
            for other in wakes:
                awake_from[other] = now
        rows.append((here, tuple(done)))
    return rows + [(state_of(stands, awake_from, beats), None)]


def state_of(stands, awake_from, now):
    return (tuple(stands.values()), tuple(max(0, until - now) for until in awake_from.values()))


def so(condition, stands, awake_from, now):
    kind, number, *place = condition
    if kind in ("hushed", "awake"):
        return (awake_from[number] > now) == (kind == "hushed")
    spot = stands[number]
    return {"is": spot == place[0], "not": spot != place[0], "below": spot < place[0]}[kind]


def some_wheels(dice):
    return dice.choice([(2,), (3,), (4,), (2, 2), (3, 2), (2, 4), (4, 4), (2, 3, 4), (2, 2, 2), (3, 2, 3)])


def some_spot(dice, wheels, words):
    wheel = dice.randrange(len(wheels))
    return (dice.choice(words), wheel, dice.randrange(wheels[wheel]))


def some_condition(dice, wheels, many):
    if dice.randrange(3) == 0:
        return (dice.choice(("hushed", "awake")), dice.randrange(many))
    return some_spot(dice, wheels, ("is", "not", "not", "below"))


def some_rule(dice, wheels, many):
    rules = list(range(many))
    hushed = sorted(dice.sample(rules, dice.randint(0, min(2, many))))
    others = [number for number in rules if number not in hushed]
    woken = sorted(dice.sample(others, dice.randint(0, min(2, len(others)))))
    return rule(
        tuple(some_condition(dice, wheels, many) for _ in range(dice.choice((0, 1, 1, 2, 4)))),
        tuple(some_spot(dice, wheels, ("put", "turn", "turn")) for _ in range(dice.choice((0, 1, 2, 3)))),
        tuple((number, dice.randint(1, 3)) for number in hushed),
        tuple(woken),
    )


def some_book(dice):
    wheels = some_wheels(dice)
    many = dice.randint(0, 5)
    return Book(wheels, tuple(some_rule(dice, wheels, many) for _ in range(many)))


def some_state(dice, book):
    values = tuple(dice.randrange(places) for places in book.wheels)
    return (values, tuple(dice.choice((0, 0, 1, 2)) for _ in book.rules))


def some_off(dice, book):
    return tuple(number for number in range(len(book)) if dice.randrange(4) == 0)


def some_runs(seed, many):
    """Books, each with a state and with rules that are put off; the same ones for a seed, always."""
    dice = random.Random(seed)
    runs = []
    for _ in range(many):
        book = some_book(dice)
        runs.append((book, some_state(dice, book), some_off(dice, book)))
    return runs
