import copy
import random
import unittest

from hushrules.books import Book
from hushrules.errors import NoBeat, NoOff, Nothing, NoPlace, NoRule, NoState, NoWheel
from hushrules.runs import state_at, times
from hushrules.watch import Watch
from tests.models import MOST, NO_NUMBERS, all_values
from tests.samples import ANY_THINGS, COUNTER, DESK, TURN, WATCH, rule, some_book, some_off, walk

# Two wheels: the rule 0 turns the first one and hushes itself; the rule 1 turns the other one where the first is at 1.
PAIR = Book((2, 3), (rule((), (("turn", 0, 1),), ((0, 3),)), rule((("is", 0, 1),), (("turn", 1, 1),), (), (0,))))
STILL = Book((2, 4))
THIRD = Book((2,), (rule((), (("turn", 0, 1),), ((0, 3),)),))


class Hand:
    """What a watch is to be: walked beat by beat, all put away ahead of each deed."""

    def __init__(self, book, values, off=()):
        self.book = book
        self.values = list(values)
        self.left = [0] * len(book)
        self.offs = set(off)
        self.counts = [0] * len(book)
        self.beat = 0
        self.past = []

    def put_away(self):
        here = (self.values, self.left, self.offs, self.counts, self.beat)
        self.past.append(copy.deepcopy(here))

    def state(self):
        return (tuple(self.values), tuple(self.left))

    def walked(self, beats):
        rows = walk(self.book, self.state(), beats, off=self.offs)
        dids = [sum(number in done for _, done in rows[:-1]) for number in range(len(self.book))]
        self.values, self.left = map(list, rows[-1][0])
        return dids

    def go(self, beats=1):
        self.put_away()
        self.beat += beats
        dids = [0] * len(self.book)
        # Far beats: on to the round, whole rounds at once, then the rest.
        if beats > 20000:
            beats -= 6000
            dids = self.walked(6000)
            start = self.state()
            around = self.walked(1)
            length = 1
            while self.state() != start:
                around = [one + other for one, other in zip(around, self.walked(1))]
                length += 1
            dids = [did + beats // length * again for did, again in zip(dids, around)]
            beats = beats % length
        dids = [one + other for one, other in zip(dids, self.walked(beats))]
        self.counts = [one + other for one, other in zip(self.counts, dids)]
        return tuple(dids)

    def hush(self, number, beats=1):
        self.put_away()
        if beats > self.left[number]:
            self.left[number] = beats

    def wake(self, number):
        self.put_away()
        self.left[number] = 0

    def turn(self, wheel, by=1):
        self.put_away()
        places = self.book.wheels[wheel]
        for _ in range(by % places):
            self.values[wheel] = 0 if self.values[wheel] == places - 1 else self.values[wheel] + 1

    def put(self, wheel, place):
        self.put_away()
        self.values[wheel] = place

    def put_off(self, number):
        self.put_away()
        self.offs.add(number)

    def put_on(self, number):
        self.put_away()
        self.offs.discard(number)

    def undo(self):
        self.values, self.left, self.offs, self.counts, self.beat = self.past.pop()


def told(watch):
    """All that a watch tells of itself."""
    return repr((watch.now(), watch.state(), watch.off(), watch.counts(), len(watch), str(watch)))


def told_back(watch):
    """All that a watch tells at each step back, the watch then being at its beginning."""
    rows = [told(watch)]
    while len(watch):
        watch.undo()
        rows.append(told(watch))
    return rows


def hand_told(hand):
    state = hand.state()
    shown = " ".join(map(str, state[0])) + " | " + (" ".join(map(str, state[1])) or "-")
    return repr((hand.beat, state, tuple(sorted(hand.offs)), hand.counts, len(hand.past), f"beat {hand.beat}: {shown}"))


def some_deed(dice, book):
    """A deed's name and its arguments."""
    words = ["go", "go", "go", "turn", "put"] + (["hush", "hush", "wake", "put_off", "put_on"] if len(book) else [])
    word = dice.choice(words)
    wheel = dice.randrange(len(book.wheels))
    if word == "go":
        return word, dice.choice([(), (0,), (1,), (2,), (3,), (7,), (30,), (30,), (dice.randrange(10 ** 60),)])
    if word == "turn":
        return word, dice.choice([(wheel,), (wheel, 0), (wheel, dice.randrange(9)), (wheel, dice.randrange(10 ** 60))])
    if word == "put":
        return word, (wheel, dice.randrange(book.wheels[wheel]))
    number = dice.randrange(len(book))
    return word, dice.choice([(number,), (number, 1), (number, 2)]) if word == "hush" else (number,)


class Made(unittest.TestCase):
    def test_as_it_is_made(self):
        watch = Watch(PAIR, (1, 2))
        self.assertEqual(repr(watch.now()), "0")
        self.assertEqual(repr(watch.state()), repr(((1, 2), (0, 0))))
        self.assertEqual(repr(watch.off()), "()")
        self.assertEqual(repr(watch.counts()), "[0, 0]")
        self.assertEqual(len(watch), 0)
        self.assertEqual(str(watch), "beat 0: 1 2 | 0 0")
        self.assertEqual(repr(Watch(PAIR, (0, 0), off=(0, 1)).off()), "(0, 1)")

    def test_without_rules(self):
        watch = Watch(STILL, (1, 3))
        self.assertEqual(repr(watch.go(MOST)), "()")
        self.assertEqual(repr(watch.counts()), "[]")
        self.assertEqual(str(watch), f"beat {MOST}: 1 3 | -")
        watch.turn(1)
        self.assertEqual(watch.state(), ((1, 0), ()))

    def test_no_state(self):
        for values in [(2, 0), (0, 3), (0,), (0, 0, 0), [0, 0], (True, 0), (0, False), ((0, 0), (0, 0)), "00", None, *ANY_THINGS]:
            for off in ((), (0,), None, (7,)):
                with self.assertRaises(NoState, msg=repr(values)[:80]):
                    Watch(PAIR, values, off=off)

    def test_no_off(self):
        for off in [(2,), (-1,), (1, 0), (0, 0), [0], (True,), (False,), "0", None, 0, (None,), WATCH, DESK, (WATCH,),
                    *[thing for thing in ANY_THINGS if repr(thing) not in ("()", "(0,)")]]:
            with self.assertRaises(NoOff, msg=repr(off)[:80]):
                Watch(PAIR, (0, 0), off=off)

    def test_by_place_and_by_name(self):
        self.assertEqual(Watch(off=(1,), values=(0, 1), book=PAIR), Watch(PAIR, (0, 1), off=(1,)))
        with self.assertRaises(TypeError):
            Watch(PAIR, (0, 0), ())
        watch = Watch(PAIR, (0, 0))
        watch.go(beats=2)
        watch.hush(beats=2, rule=1)
        watch.wake(rule=0)
        watch.turn(by=2, wheel=1)
        watch.put(place=1, wheel=0)
        watch.put_off(rule=0)
        watch.put_on(rule=0)
        other = Watch(PAIR, (0, 0))
        other.go(2)
        other.hush(1, 2)
        other.wake(0)
        other.turn(1, 2)
        other.put(0, 1)
        other.put_off(0)
        other.put_on(0)
        self.assertEqual(told(watch), told(other))
        self.assertEqual(watch.tried(deed=lambda same: same.now()), 2)


class Deeds(unittest.TestCase):
    def test_go(self):
        watch = Watch(THIRD, (0,))
        self.assertEqual(repr(watch.go()), "(1,)")
        self.assertEqual((watch.now(), watch.state(), watch.counts(), len(watch)), (1, ((1,), (2,)), [1], 1))
        self.assertEqual(repr(watch.go(0)), "(0,)")
        self.assertEqual((watch.now(), watch.state(), watch.counts(), len(watch)), (1, ((1,), (2,)), [1], 2))
        self.assertEqual(repr(watch.go(2)), "(0,)")
        self.assertEqual(watch.go(1), (1,))
        self.assertEqual((watch.now(), watch.state(), watch.counts()), (4, ((0,), (2,)), [2]))
        self.assertEqual(str(watch), "beat 4: 0 | 2")

    def test_go_far(self):
        watch = Watch(THIRD, (0,))
        self.assertEqual(watch.go(MOST), (MOST // 3,))
        self.assertEqual(watch.go(MOST), (MOST // 3,))
        self.assertEqual((watch.now(), watch.counts()), (2 * MOST, [2 * MOST // 3]))
        self.assertEqual(watch.state(), ((0,), (0,)))
        watch.undo()
        self.assertEqual((watch.now(), watch.counts()), (MOST, [MOST // 3]))

    def test_go_tells_what_times_does(self):
        dice = random.Random(71)
        for _ in range(150):
            book = some_book(dice)
            values = tuple(dice.randrange(places) for places in book.wheels)
            off = some_off(dice, book)
            for beats in (0, 1, 2, 3, 10, 50, 51, 52, 700, 10 ** 59 + dice.randrange(10 ** 9), MOST):
                watch = Watch(book, values, off=off)
                state = watch.state()
                dids = watch.go(beats)
                self.assertEqual(repr(dids), repr(tuple(times(book, state, n, beats, off=off) for n in range(len(book)))))
                self.assertEqual(repr(watch.counts()), repr(list(dids)))
                self.assertEqual(repr(watch.state()), repr(state_at(book, state, beats, off=off)))

    def test_hush(self):
        watch = Watch(PAIR, (0, 0))
        self.assertIs(watch.hush(0), None)
        self.assertEqual(watch.state(), ((0, 0), (1, 0)))
        self.assertIs(watch.hush(1, 2), None)
        self.assertEqual(watch.state(), ((0, 0), (1, 2)))
        # It is so for longer already.
        watch.hush(1, 1)
        self.assertEqual(watch.state(), ((0, 0), (1, 2)))
        watch.hush(0, 2)
        self.assertEqual(watch.state(), ((0, 0), (2, 2)))
        watch.hush(0, 2)
        self.assertEqual((watch.state(), len(watch), watch.now(), watch.counts()), (((0, 0), (2, 2)), 5, 0, [0, 0]))
        self.assertEqual(watch.go(2), (0, 0))
        self.assertEqual(watch.go(), (1, 1))

    def test_hush_behind_a_rule_that_hushed_it(self):
        watch = Watch(THIRD, (0,))
        watch.go()
        watch.hush(0, 1)
        self.assertEqual(watch.state(), ((1,), (2,)))

    def test_wake(self):
        watch = Watch(THIRD, (0,))
        watch.go()
        self.assertIs(watch.wake(0), None)
        self.assertEqual(watch.state(), ((1,), (0,)))
        self.assertEqual(watch.go(), (1,))
        watch.wake(0)
        watch.wake(0)
        self.assertEqual((watch.state(), watch.counts(), len(watch)), (((0,), (0,)), [2], 5))

    def test_turn(self):
        watch = Watch(PAIR, (0, 1))
        self.assertIs(watch.turn(1), None)
        self.assertEqual(watch.state(), ((0, 2), (0, 0)))
        watch.turn(1)
        self.assertEqual(watch.state(), ((0, 0), (0, 0)))
        watch.turn(0, 0)
        self.assertEqual((watch.state(), len(watch)), (((0, 0), (0, 0)), 3))
        watch.turn(1, 7)
        self.assertEqual(watch.state(), ((0, 1), (0, 0)))
        watch.turn(1, MOST)
        self.assertEqual(watch.state(), ((0, 1), (0, 0)))
        watch.turn(1, 10 ** 59)
        self.assertEqual(watch.state(), ((0, 2), (0, 0)))
        watch.turn(0, 10 ** 59 + 1)
        self.assertEqual((watch.state(), watch.now(), watch.counts()), (((1, 2), (0, 0)), 0, [0, 0]))

    def test_put_at_each_place(self):
        watch = Watch(PAIR, (0, 0))
        for wheel, places in enumerate(PAIR.wheels):
            for place in [*range(places), *range(places)]:
                self.assertIs(watch.put(wheel, place), None)
                self.assertEqual(watch.state()[0][wheel], place)
        self.assertEqual((watch.state(), len(watch)), (((1, 2), (0, 0)), 10))

    def test_put_off_and_on_twice(self):
        watch = Watch(PAIR, (1, 0))
        for deed, off in [(watch.put_off, (1,)), (watch.put_off, (1,)), (watch.put_on, ()), (watch.put_on, ())]:
            self.assertIs(deed(1), None)
            self.assertEqual(repr(watch.off()), repr(off))
        self.assertEqual(len(watch), 4)
        watch.put_off(1)
        watch.put_off(0)
        self.assertEqual(repr(watch.off()), "(0, 1)")
        self.assertEqual(watch.go(MOST), (0, 0))
        watch.put_on(1)
        self.assertEqual(repr(watch.off()), "(0,)")
        self.assertEqual(watch.go(2), (0, 2))
        self.assertEqual(watch.counts(), [0, 2])

    def test_put_off_where_it_was_made_so(self):
        watch = Watch(PAIR, (1, 0), off=(0, 1))
        watch.put_off(0)
        self.assertEqual(watch.off(), (0, 1))
        watch.put_on(0)
        self.assertEqual(watch.off(), (1,))

    def test_each_deed_alone_against_a_walk(self):
        for values in all_values(PAIR):
            deeds = [("go", ()), *[("go", (n,)) for n in (0, 1, 2, 3, 17, 10 ** 5, MOST)]]
            deeds += [("hush", (n, *beats)) for n in (0, 1) for beats in ((), (1,), (2,))] + [("wake", (n,)) for n in (0, 1)]
            deeds += [("turn", (wheel, *by)) for wheel in (0, 1) for by in ((), (0,), (1,), (2,), (3,), (10 ** 59,))]
            deeds += [("put", (wheel, place)) for wheel, places in enumerate(PAIR.wheels) for place in range(places)]
            deeds += [(word, (n,)) for word in ("put_off", "put_on") for n in (0, 1)]
            for word, parts in deeds:
                for off in ((), (0,), (1,), (0, 1)):
                    for ahead in (0, 1, 2):
                        watch, hand = Watch(PAIR, values, off=off), Hand(PAIR, values, off)
                        watch.go(ahead)
                        hand.go(ahead)
                        self.assertEqual(repr(getattr(watch, word)(*parts)), repr(getattr(hand, word)(*parts)))
                        self.assertEqual(told(watch), hand_told(hand), (word, parts, values, off))

    def test_many_in_a_row_against_a_walk(self):
        dice = random.Random(72)
        for _ in range(60):
            book = some_book(dice)
            values, off = tuple(dice.randrange(places) for places in book.wheels), some_off(dice, book)
            watch, hand = Watch(book, values, off=off), Hand(book, values, off)
            for _ in range(40):
                if dice.randrange(4) == 0 and hand.past:
                    self.assertIs(watch.undo(), None)
                    hand.undo()
                else:
                    word, parts = some_deed(dice, book)
                    self.assertEqual(repr(getattr(watch, word)(*parts)), repr(getattr(hand, word)(*parts)))
                self.assertEqual(told(watch), hand_told(hand), book.rules)
            while hand.past:
                watch.undo()
                hand.undo()
                self.assertEqual(told(watch), hand_told(hand))
            self.assertEqual(told(watch), told(Watch(book, values, off=off)))

    def test_two_hundred_deeds(self):
        watch = Watch(PAIR, (0, 0))
        rows = [told(watch)]
        for n in range(200):
            deed = [lambda: watch.go(MOST), lambda: watch.hush(0, 2), lambda: watch.turn(1, MOST - 1), lambda: watch.go(0)][n % 4]
            deed()
            rows.append(told(watch))
        self.assertEqual((len(watch), watch.now()), (200, 50 * MOST))
        for row in reversed(rows):
            self.assertEqual(told(watch), row)
            if len(watch):
                watch.undo()
        with self.assertRaises(Nothing):
            watch.undo()


class Refusals(unittest.TestCase):
    def setUp(self):
        self.watch = Watch(PAIR, (0, 1), off=(1,))
        self.watch.go(2)
        self.watch.turn(0)
        self.kept = told(self.watch)

    def refused(self, error, field, thing, deed):
        with self.assertRaises(error, msg=repr(thing)[:80]) as refused:
            deed()
        self.assertIs(type(refused.exception), error)
        self.assertIs(getattr(refused.exception, field), thing)
        self.assertEqual(told(self.watch), self.kept)

    def no_numbers(self, *right):
        texts = [repr(number) for number in right]
        return [thing for thing in [*NO_NUMBERS, *ANY_THINGS, 2, 3, 4] if repr(thing) not in texts]

    def test_no_rule(self):
        watch = self.watch
        for thing in self.no_numbers(0, 1):
            for deed in (watch.hush, watch.wake, watch.put_off, watch.put_on):
                self.refused(NoRule, "rule", thing, lambda: deed(thing))
            self.refused(NoRule, "rule", thing, lambda: watch.hush(thing, None))
            self.refused(NoRule, "rule", thing, lambda: watch.hush(thing, 9))
            self.refused(NoRule, "rule", thing, lambda: watch.hush(thing, 1))

    def test_no_beats(self):
        for thing in self.no_numbers(0, 1, 2, 3, 4, 5, 24):
            self.refused(NoBeat, "beats", thing, lambda: self.watch.go(thing))
            self.refused(NoBeat, "beats", thing, lambda: self.watch.turn(0, thing))
            self.refused(NoBeat, "beats", thing, lambda: self.watch.turn(1, by=thing))

    def test_no_beats_to_hush(self):
        for thing in [0, 3, -1, 10 ** 59, *self.no_numbers(1, 2)]:
            self.refused(NoBeat, "beats", thing, lambda: self.watch.hush(0, thing))
            self.refused(NoBeat, "beats", thing, lambda: self.watch.hush(1, beats=thing))

    def test_no_wheel(self):
        for thing in self.no_numbers(0, 1):
            for other in (0, 1, 9, None, -1, WATCH):
                self.refused(NoWheel, "wheel", thing, lambda: self.watch.turn(thing, other))
                self.refused(NoWheel, "wheel", thing, lambda: self.watch.put(thing, other))
            self.refused(NoWheel, "wheel", thing, lambda: self.watch.turn(thing))

    def test_no_place(self):
        for thing in self.no_numbers(0, 1):
            self.refused(NoPlace, "place", thing, lambda: self.watch.put(0, thing))
        for thing in self.no_numbers(0, 1, 2):
            self.refused(NoPlace, "place", thing, lambda: self.watch.put(1, thing))

    def test_of_a_book_without_rules(self):
        self.watch = Watch(STILL, (0, 0))
        self.kept = told(self.watch)
        for deed in (self.watch.hush, self.watch.wake, self.watch.put_off, self.watch.put_on):
            self.refused(NoRule, "rule", 0, lambda: deed(0))

    def test_taken_back_as_if_nothing_was_refused(self):
        for deed in (lambda: self.watch.go(-1), lambda: self.watch.put(0, 2), lambda: self.watch.wake(2)):
            with self.assertRaises((NoBeat, NoPlace, NoRule)):
                deed()
        other = Watch(PAIR, (0, 1), off=(1,))
        other.go(2)
        other.turn(0)
        self.assertEqual(told_back(self.watch), told_back(other))


class Undo(unittest.TestCase):
    def test_nothing(self):
        watch = Watch(PAIR, (0, 0))
        for _ in range(2):
            with self.assertRaises(Nothing):
                watch.undo()
            self.assertEqual(told(watch), told(Watch(PAIR, (0, 0))))

    def test_a_deed_that_changed_nothing_is_taken_back(self):
        watch = Watch(PAIR, (0, 0))
        watch.turn(0)
        for deed in (lambda: watch.go(0), lambda: watch.wake(1), lambda: watch.put(0, 1), lambda: watch.turn(0, 0),
                     lambda: watch.put_on(0), lambda: watch.turn(1, 3)):
            kept = told(watch)
            deed()
            self.assertEqual((watch.state(), len(watch)), (((1, 0), (0, 0)), 2))
            watch.undo()
            self.assertEqual(told(watch), kept)
        watch.undo()
        self.assertEqual(told(watch), told(Watch(PAIR, (0, 0))))

    def test_deeds_behind_undo(self):
        watch = Watch(PAIR, (0, 0))
        watch.go(3)
        watch.put(1, 2)
        watch.undo()
        watch.undo()
        watch.turn(1)
        watch.go()
        self.assertEqual(len(watch), 2)
        other = Watch(PAIR, (0, 0))
        other.turn(1)
        other.go()
        self.assertEqual(told(watch), told(other))
        watch.undo()
        self.assertEqual(told(watch), repr((0, ((0, 1), (0, 0)), (), [0, 0], 1, "beat 0: 0 1 | 0 0")))
        watch.undo()
        with self.assertRaises(Nothing):
            watch.undo()

    def test_step_by_step(self):
        watch = Watch(PAIR, (1, 1), off=(0,))
        rows = [told(watch)]
        for deed in (lambda: watch.go(4), lambda: watch.hush(0, 2), lambda: watch.put_on(0), lambda: watch.put_off(1),
                     lambda: watch.go(MOST), lambda: watch.wake(0), lambda: watch.turn(1, 2), lambda: watch.put(0, 0)):
            deed()
            rows.append(told(watch))
        self.assertEqual(told_back(watch), rows[::-1])


class Tried(unittest.TestCase):
    def setUp(self):
        self.watch = self.made()
        self.kept = told(self.watch)
        self.back = told_back(self.made())

    def made(self):
        watch = Watch(PAIR, (0, 1))
        watch.go(2)
        watch.hush(0, 2)
        watch.put_off(1)
        return watch

    def tearDown(self):
        self.assertEqual(told(self.watch), self.kept)
        self.assertEqual(told_back(self.watch), self.back)
        with self.assertRaises(Nothing):
            self.watch.undo()

    def test_what_the_def_tells(self):
        thing = [1, [2]]
        self.assertIs(self.watch.tried(lambda watch: thing), thing)
        self.assertIs(self.watch.tried(lambda watch: None), None)
        self.assertIs(self.watch.tried(lambda watch: watch), self.watch)
        self.assertEqual(self.watch.tried(lambda watch: watch.go(5)), self.made().go(5))
        self.assertEqual(self.watch.tried(lambda watch: self.watch.go(5)), self.made().go(5))

    def test_deeds_and_undos(self):
        def deed(watch):
            watch.go(7)
            watch.undo()
            watch.put(1, 0)
            watch.put_on(1)
            watch.undo()
            watch.wake(0)
            return told(watch)

        other = self.made()
        other.put(1, 0)
        other.wake(0)
        self.assertEqual(self.watch.tried(deed), told(other))

    def test_more_undone_than_it_did(self):
        def deed(watch):
            watch.go()
            for _ in range(3):
                watch.undo()
            watch.turn(0)
            watch.undo()
            return told(watch)

        other = Watch(PAIR, (0, 1))
        other.go(2)
        self.assertEqual(self.watch.tried(deed), told(other))

    def test_all_undone(self):
        def deed(watch):
            while len(watch):
                watch.undo()
            watch.go(MOST)
            return watch.now()

        self.assertEqual(self.watch.tried(deed), MOST)

    def test_a_refusal_comes_through(self):
        thing = [9]

        def deed(watch):
            watch.go(3)
            watch.undo()
            watch.undo()
            watch.hush(0, thing)

        with self.assertRaises(NoBeat) as refused:
            self.watch.tried(deed)
        self.assertIs(refused.exception.beats, thing)

    def test_nothing_comes_through(self):
        def deed(watch):
            while True:
                watch.undo()

        with self.assertRaises(Nothing):
            self.watch.tried(deed)

    def test_another_error_comes_through(self):
        for error in (KeyError("x"), ZeroDivisionError(), KeyboardInterrupt(), StopIteration(), SystemExit(3)):
            def deed(watch):
                watch.go(3)
                raise error

            with self.assertRaises(type(error)) as raised:
                self.watch.tried(deed)
            self.assertIs(raised.exception, error)
            self.assertEqual(told(self.watch), self.kept)

    def test_a_refusal_that_the_def_handles(self):
        def deed(watch):
            watch.go(3)
            try:
                watch.put(7, 7)
            except NoWheel as refused:
                return refused.wheel, watch.now()

        self.assertEqual(self.watch.tried(deed), (7, 5))

    def test_a_trial_within_a_trial(self):
        def inner(watch):
            watch.undo()
            watch.undo()
            watch.go(9)
            return told(watch)

        def outer(watch):
            watch.turn(1)
            ahead = told(watch)
            first = watch.tried(inner)
            same = told(watch) == ahead
            watch.undo()
            watch.undo()
            return first, same, told(watch)

        other = self.made()
        other.undo()
        middle = told(other)
        other = self.made()
        other.undo()
        other.go(9)
        self.assertEqual(self.watch.tried(outer), (told(other), True, middle))

    def test_an_error_out_of_a_trial_within_a_trial(self):
        def inner(watch):
            watch.undo()
            watch.go(9)
            raise KeyError("inner")

        def outer(watch):
            watch.turn(1)
            ahead = told(watch)
            try:
                watch.tried(inner)
            except KeyError:
                self.assertEqual(told(watch), ahead)
            watch.tried(inner)

        with self.assertRaises(KeyError):
            self.watch.tried(outer)

    def test_another_watch_is_left_as_it_is(self):
        other = Watch(PAIR, (0, 0))

        def deed(watch):
            watch.go(2)
            other.go(4)

        self.watch.tried(deed)
        self.assertEqual((other.now(), len(other)), (4, 1))

    def test_two_trials_in_a_row(self):
        self.assertEqual(self.watch.tried(lambda watch: watch.go(6)), self.watch.tried(lambda watch: watch.go(6)))


class Compared(unittest.TestCase):
    def watch(self, *deeds, book=PAIR, values=(0, 0), off=()):
        watch = Watch(book, values, off=off)
        for word, *parts in deeds:
            getattr(watch, word)(*parts)
        return watch

    def same(self, one, other, truth):
        self.assertIs(one == other, truth)
        self.assertIs(other == one, truth)
        self.assertIs(one != other, not truth)

    def test_equal(self):
        self.same(self.watch(), self.watch(), True)
        self.same(self.watch(book=Book(PAIR.wheels, PAIR.rules)), self.watch(), True)
        self.same(self.watch(("go", 5)), self.watch(("go", 2), ("go", 3)), True)

    def test_deeds_that_can_be_taken_back_are_not_asked(self):
        self.same(self.watch(("go", 0)), self.watch(), True)
        self.same(self.watch(("turn", 0), ("undo",)), self.watch(), True)
        self.same(self.watch(("turn", 1)), self.watch(values=(0, 1)), True)
        self.same(self.watch(("put_off", 1)), self.watch(off=(1,)), True)

    def test_by_the_book(self):
        self.same(self.watch(book=Book((2, 3))), self.watch(book=Book((2, 4))), False)
        more = Book((2, 3), PAIR.rules[::-1])
        self.same(self.watch(book=more), self.watch(), False)

    def test_by_the_beat_alone(self):
        book = Book((2,))
        self.same(self.watch(("go", 1), book=book, values=(0,)), self.watch(book=book, values=(0,)), False)

    def test_by_the_state_alone(self):
        self.same(self.watch(("turn", 0)), self.watch(), False)
        self.same(self.watch(("hush", 0)), self.watch(), False)
        self.same(self.watch(("hush", 0)), self.watch(("hush", 0, 2)), False)

    def test_by_what_is_put_off_alone(self):
        self.same(self.watch(("put_off", 0)), self.watch(), False)
        self.same(self.watch(off=(1,)), self.watch(off=(0,)), False)

    def test_by_the_counts_alone(self):
        book = Book((2,), (rule(), rule()))
        one = self.watch(("go", 1), book=book, values=(0,))
        other = self.watch(("put_off", 0), ("go", 1), ("put_on", 0), book=book, values=(0,))
        self.assertEqual((one.now(), one.state(), one.off()), (other.now(), other.state(), other.off()))
        self.same(one, other, False)

    def test_to_nothing_else(self):
        watch = self.watch()
        for thing in (None, 0, True, "", str(watch), (), [], [watch], PAIR, watch.state(), DESK, COUNTER, *ANY_THINGS):
            self.same(watch, thing, False)

    def test_length_is_deeds(self):
        watch = self.watch(("go", 0), ("turn", 0), ("put_off", 0), ("undo",))
        self.assertEqual(len(watch), 2)


class Apart(unittest.TestCase):
    def test_counts_is_a_new_list(self):
        watch = Watch(PAIR, (0, 0))
        watch.go(4)
        first = watch.counts()
        self.assertIs(type(first), list)
        kept = list(first)
        first[0] += 5
        first.append(None)
        self.assertEqual(watch.counts(), kept)
        self.assertIsNot(watch.counts(), watch.counts())
        watch.go()
        watch.counts().clear()
        watch.undo()
        self.assertEqual(watch.counts(), kept)

    def test_two_watches_over_one_book(self):
        one, other = Watch(PAIR, (0, 0)), Watch(PAIR, (0, 0))
        kept = told(other)
        one.go(7)
        one.put_off(0)
        one.hush(1)
        self.assertEqual(told(other), kept)
        other.turn(1)
        one.undo()
        self.assertEqual((other.state(), len(other)), (((0, 1), (0, 0)), 1))
        self.assertEqual((PAIR.wheels, len(PAIR.rules)), ((2, 3), 2))

    def test_what_was_told_stays_as_it_was(self):
        watch = Watch(COUNTER, (0,))
        state, off, counts, dids = watch.state(), watch.off(), watch.counts(), watch.go(4)
        watch.put_off(0)
        self.assertEqual((state, off, counts, dids), (((0,), (0,)), (), [0], (4,)))

    def test_asking_is_no_deed(self):
        watch = Watch(Book((3,), (TURN, TURN)), (0,))
        watch.go()
        for _ in range(2):
            self.assertEqual(told(watch), repr((1, ((2,), (0, 0)), (), [1, 1], 1, "beat 1: 2 | 0 0")))


if __name__ == "__main__":
    unittest.main()
