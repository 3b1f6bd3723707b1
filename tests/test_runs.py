import unittest

from hushrules.beats import beat
from hushrules.books import Book, begun
from hushrules.errors import NoBeat, NoOff, NoRule, NoState
from hushrules.runs import nth, quiet_from, round_of, state_at, times
from tests.samples import ANY_THINGS, COUNTER, TURN, rule, some_runs, walk

EMPTY = rule()
MOST = 10 ** 60 - 1
NO_BEATS = [-1, -(10 ** 59), 10 ** 60, 10 ** 79, True, False, None, "1", "", [1], (1,), []]

# Goes on to the last place, and is quiet there.
CLIMBER = Book((4,), (rule((("below", 0, 3),), (("turn", 0, 1),)),))
# Does at every third beat.
THIRD = Book((2,), (rule((), (("turn", 0, 1),), ((0, 3),)),))
# The first rule does once, ahead of the round; the second one always.
LEAD_IN = Book((2, 3), (rule((("is", 0, 0),), (("put", 0, 1),)), rule((("not", 0, 0),), (("turn", 1, 1),))))
# Is quiet, while the second rule is still hushed.
STILL = Book((2,), (rule((("is", 0, 0),), (("put", 0, 1),), ((1, 3),)), rule((("is", 0, 0),))))
# Comes round only when its last wheel does, and halts at times on the way.
ODOMETER = Book((4, 3, 2), (
    rule((), (("turn", 0, 1),)),
    rule((("is", 0, 0),), (("turn", 1, 1),)),
    rule((("is", 0, 0), ("is", 1, 0)), (("turn", 2, 1),)),
    rule((("is", 0, 1), ("is", 1, 0)), (), ((0, 3), (1, 2), (3, 3)), (2,)),
))


def walked_round(book, state, named):
    """The round of a run, and the states and the rules that did, some way beyond it, by walking alone."""
    far = 16
    while True:
        rows = walk(book, state, far, **named)
        states = [here for here, _ in rows]
        begin = next((n for n, here in enumerate(states) if here in states[n + 1:]), far)
        length = states[begin + 1:].index(states[begin]) + 1 if begin < far else far
        if begin + 3 * length < far:
            return begin, length, states, [done for _, done in rows[:-1]]
        far *= 2


class ByHand(unittest.TestCase):
    def test_counter(self):
        state = ((1,), (0,))
        self.assertEqual([state_at(COUNTER, state, n) for n in range(4)], [((n,), (0,)) for n in (1, 2, 0, 1)])
        self.assertEqual(repr(state_at(COUNTER, state, MOST)), repr(((1,), (0,))))
        self.assertEqual(state_at(COUNTER, state, 10 ** 59), ((2,), (0,)))
        self.assertEqual(repr(round_of(COUNTER, state)), "(0, 3)")
        self.assertIs(quiet_from(COUNTER, state), None)
        self.assertEqual(times(COUNTER, state, 0, MOST), MOST)
        self.assertEqual(nth(COUNTER, state, 0, MOST), MOST - 1)

    def test_climber(self):
        state = begun(CLIMBER, (0,))
        self.assertEqual([state_at(CLIMBER, state, n)[0][0] for n in range(6)], [0, 1, 2, 3, 3, 3])
        self.assertEqual(round_of(CLIMBER, state), (3, 1))
        self.assertEqual(repr(quiet_from(CLIMBER, state)), "3")
        self.assertEqual([times(CLIMBER, state, 0, n) for n in (0, 1, 2, 3, 4, MOST)], [0, 1, 2, 3, 3, 3])
        self.assertEqual([nth(CLIMBER, state, 0, n) for n in (1, 2, 3, 4, MOST)], [0, 1, 2, None, None])
        self.assertEqual(round_of(CLIMBER, ((3,), (0,))), (0, 1))
        self.assertEqual(repr(quiet_from(CLIMBER, ((3,), (0,)))), "0")
        self.assertIs(nth(CLIMBER, ((3,), (0,)), 0), None)

    def test_third(self):
        state = ((0,), (0,))
        states = [((0,), (0,)), ((1,), (2,)), ((1,), (1,)), ((1,), (0,)), ((0,), (2,)), ((0,), (1,)), ((0,), (0,))]
        self.assertEqual([state_at(THIRD, state, n) for n in range(7)], states)
        self.assertEqual(round_of(THIRD, state), (0, 6))
        self.assertEqual([times(THIRD, state, 0, n) for n in range(8)], [0, 1, 1, 1, 2, 2, 2, 3])
        self.assertEqual([nth(THIRD, state, 0, n) for n in (1, 2, 3, 4)], [0, 3, 6, 9])
        self.assertEqual(nth(THIRD, state, 0, MOST), 3 * (MOST - 1))
        self.assertEqual(times(THIRD, state, 0, MOST), MOST // 3)
        self.assertEqual(times(THIRD, state, 0, 10 ** 59), 10 ** 59 // 3 + 1)
        self.assertEqual(nth(THIRD, ((0,), (2,)), 0), 2)
        self.assertIs(quiet_from(THIRD, state), None)

    def test_lead_in(self):
        state = begun(LEAD_IN, (0, 0))
        self.assertEqual([state_at(LEAD_IN, state, n)[0] for n in range(5)], [(0, 0), (1, 1), (1, 2), (1, 0), (1, 1)])
        self.assertEqual(round_of(LEAD_IN, state), (1, 3))
        self.assertEqual([times(LEAD_IN, state, 0, n) for n in (0, 1, 2, MOST)], [0, 1, 1, 1])
        self.assertEqual([nth(LEAD_IN, state, 0, n) for n in (1, 2, MOST)], [0, None, None])
        self.assertEqual(times(LEAD_IN, state, 1, MOST), MOST)
        self.assertIs(quiet_from(LEAD_IN, state), None)
        self.assertEqual(quiet_from(LEAD_IN, state, off=(0,)), 0)
        self.assertEqual(round_of(LEAD_IN, state, off=(0,)), (0, 1))
        self.assertEqual(quiet_from(LEAD_IN, state, off=(1,)), 1)
        self.assertEqual(round_of(LEAD_IN, state, off=(1,)), (1, 1))
        self.assertEqual(state_at(LEAD_IN, state, MOST, off=(1,)), ((1, 0), (0, 0)))
        self.assertEqual(times(LEAD_IN, state, 0, MOST, off=(0,)), 0)
        self.assertIs(nth(LEAD_IN, state, 1, off=(0,)), None)

    def test_quiet_ahead_of_the_round(self):
        state = begun(STILL, (0,))
        self.assertEqual([state_at(STILL, state, n)[1] for n in range(5)], [(0, 0), (0, 2), (0, 1), (0, 0), (0, 0)])
        self.assertEqual(round_of(STILL, state), (3, 1))
        self.assertEqual(quiet_from(STILL, state), 1)
        self.assertEqual(quiet_from(STILL, ((1,), (2, 2))), 0)
        self.assertEqual(round_of(STILL, ((1,), (2, 1))), (2, 1))

    def test_a_rule_that_does_nothing_does(self):
        book = Book((2,), (EMPTY,))
        self.assertIs(quiet_from(book, ((0,), (0,))), None)
        self.assertEqual(round_of(book, ((0,), (0,))), (0, 1))
        self.assertEqual(times(book, ((0,), (2,)), 0, 10), 8)

    def test_without_rules(self):
        book = Book((2, 2))
        state = ((1, 0), ())
        self.assertEqual(state_at(book, state, MOST), state)
        self.assertEqual(round_of(book, state), (0, 1))
        self.assertEqual(quiet_from(book, state), 0)


class AgainstAWalk(unittest.TestCase):
    @classmethod
    def setUpClass(cls):
        cls.runs = []
        for book, state, off in [(ODOMETER, ((3, 2, 0), (0, 2, 1, 2)), (3,)), *some_runs(6, 300)]:
            for named in ({}, {"off": off}):
                cls.runs.append((book, state, named, *walked_round(book, state, named)))

    def test_the_runs_are_of_many_kinds(self):
        self.assertTrue(any(begin > 3 and length > 3 for _, _, _, begin, length, _, _ in self.runs))
        self.assertTrue(any(begin > 0 and length > 10 for _, _, _, begin, length, _, _ in self.runs))
        quiet = [quiet_from(book, state, **named) for book, state, named, *_ in self.runs]
        self.assertTrue(None in quiet and 0 in quiet and any(told not in (None, 0) for told in quiet))

    def test_near_beats(self):
        for book, state, named, begin, length, states, dones in self.runs:
            for n in {*range(12), begin - 1, begin, begin + 1, begin + length - 1, begin + length, len(states) - 1}:
                if 0 <= n < len(states):
                    self.assertEqual(repr(state_at(book, state, n, **named)), repr(states[n]))

    def test_far_beats(self):
        for book, state, named, begin, length, states, dones in self.runs:
            for n in (MOST, 10 ** 59, 10 ** 59 + 12345678901, 4 * 10 ** 30 + 1):
                told = state_at(book, state, n, **named)
                self.assertEqual(told, states[begin + (n - begin) % length])
                if n < MOST:
                    off = named.get("off", ())
                    self.assertEqual(beat(book, told, off=off)[1], state_at(book, state, n + 1, **named))

    def test_the_round_and_not_sooner(self):
        for book, state, named, begin, length, states, dones in self.runs:
            self.assertEqual(repr(round_of(book, state, **named)), repr((begin, length)))
            self.assertEqual(states[begin], states[begin + length])
            self.assertEqual(len(set(states[:begin + length])), begin + length)

    def test_quiet(self):
        for book, state, named, begin, length, states, dones in self.runs:
            told = quiet_from(book, state, **named)
            if told is None:
                self.assertTrue(any(dones[begin:begin + length]))
            else:
                self.assertIs(type(told), int)
                self.assertFalse(any(dones[told:]))
                self.assertTrue(told == 0 or dones[told - 1])

    def test_times(self):
        for book, state, named, begin, length, states, dones in self.runs:
            for number in range(len(book)):
                for n in {0, 1, 2, 7, begin, begin + 1, begin + length, begin + length + 1, len(dones)}:
                    if n <= len(dones):
                        count = sum(number in done for done in dones[:n])
                        self.assertEqual(repr(times(book, state, number, n, **named)), repr(count))

    def test_far_times(self):
        for book, state, named, begin, length, states, dones in self.runs:
            for number in range(len(book)):
                around = sum(number in done for done in dones[begin:begin + length])
                for n in (MOST, 10 ** 59 + 77):
                    rounds, rest = divmod(n - begin, length)
                    count = sum(number in done for done in dones[:begin + rest]) + rounds * around
                    self.assertEqual(times(book, state, number, n, **named), count)

    def test_nth(self):
        for book, state, named, begin, length, states, dones in self.runs:
            for number in range(len(book)):
                beats = [n for n, done in enumerate(dones) if number in done]
                for many in {1, 2, 3, 7, len(beats) - 1, len(beats)}:
                    if 1 <= many <= len(beats):
                        self.assertEqual(repr(nth(book, state, number, many, **named)), repr(beats[many - 1]))
                self.assertEqual(nth(book, state, number, **named), beats[0] if beats else None)

    def test_far_nth(self):
        for book, state, named, begin, length, states, dones in self.runs:
            for number in range(len(book)):
                beats = [n for n, done in enumerate(dones) if number in done]
                again = any(number in done for done in dones[begin:begin + length])
                if not again:
                    self.assertIs(nth(book, state, number, len(beats) + 1, **named), None)
                    self.assertIs(nth(book, state, number, MOST, **named), None)
                    continue
                for many in (MOST, 10 ** 58 + 3):
                    told = nth(book, state, number, many, **named)
                    self.assertEqual((told - begin) % length in {(n - begin) % length for n in beats}, True)
                    if told < MOST:
                        self.assertEqual(times(book, state, number, told, **named), many - 1)
                        self.assertEqual(times(book, state, number, told + 1, **named), many)

    def test_asked_twice(self):
        for book, state, named, *_ in self.runs[:60]:
            first = (round_of(book, state, **named), quiet_from(book, state, **named), state_at(book, state, MOST, **named))
            second = (round_of(book, state, **named), quiet_from(book, state, **named), state_at(book, state, MOST, **named))
            self.assertEqual(repr(first), repr(second))


class Bounds(unittest.TestCase):
    state = ((0,), (0,))

    def test_beats_within_the_bounds(self):
        for n in (0, 1, MOST):
            self.assertEqual(state_at(COUNTER, self.state, n), ((n % 3,), (0,)))
            self.assertEqual(times(COUNTER, self.state, 0, n), n)
        for n in (1, 2, MOST):
            self.assertEqual(nth(COUNTER, self.state, 0, n), n - 1)
        self.assertEqual(nth(THIRD, self.state, 0, MOST), 3 * MOST - 3)
        self.assertGreater(nth(THIRD, self.state, 0, MOST), MOST)

    def refused(self, thing, deed, *parts):
        with self.assertRaises(NoBeat, msg=repr(thing)[:80]) as refused:
            deed(COUNTER, self.state, *parts, thing)
        self.assertIs(refused.exception.beats, thing)

    def test_beats_beyond_the_bounds(self):
        for thing in NO_BEATS + [thing for thing in ANY_THINGS if repr(thing) not in ("0", "1", "5", "24")]:
            self.refused(thing, state_at)
            self.refused(thing, times, 0)
            self.refused(thing, nth, 0)
        self.refused(0, nth, 0)


class Refusals(unittest.TestCase):
    state = ((0,), (0,))
    asked = [
        (state_at, (), (1,)), (round_of, (), ()), (quiet_from, (), ()), (times, (0,), (1,)), (nth, (0,), (1,)),
    ]

    def test_no_state(self):
        for deed, rules, beats in self.asked:
            for thing in ANY_THINGS + [((0,), (3,)), ((3,), (0,)), ((0,), (True,)), ((0,), ()), ([0], (0,))]:
                with self.assertRaises(NoState, msg=repr(thing)[:80]):
                    deed(COUNTER, thing, *rules, *beats)

    def test_no_rule(self):
        for deed in (times, nth):
            for thing in [1, 5, -1, True, False, None, "0", [0], (0,), 10 ** 79]:
                with self.assertRaises(NoRule) as refused:
                    deed(COUNTER, self.state, thing, 1)
                self.assertIs(refused.exception.rule, thing)
            for thing in ANY_THINGS:
                if type(thing) is not int:
                    with self.assertRaises(NoRule) as refused:
                        deed(COUNTER, self.state, thing, 1)
                    self.assertIs(refused.exception.rule, thing)

    def test_no_off(self):
        for deed, rules, beats in self.asked:
            for off in [(1,), (-1,), (0, 0), [], [0], None, (True,), (False,), "0", 0, (None,), ((0,),)]:
                with self.assertRaises(NoOff, msg=repr(off)):
                    deed(COUNTER, self.state, *rules, *beats, off=off)

    def test_which_refusal_is_made(self):
        for deed, rules, beats in self.asked:
            bad_rules = tuple(9 for _ in rules)
            bad_beats = tuple(-1 for _ in beats)
            with self.assertRaises(NoState):
                deed(COUNTER, None, *bad_rules, *bad_beats, off=None)
            with self.assertRaises(NoState):
                deed(COUNTER, None, *rules, *bad_beats)
            with self.assertRaises(NoState):
                deed(COUNTER, None, *rules, *beats, off=None)
            if rules:
                with self.assertRaises(NoRule):
                    deed(COUNTER, self.state, *bad_rules, *bad_beats, off=None)
                with self.assertRaises(NoRule):
                    deed(COUNTER, self.state, *bad_rules, *beats, off=None)
                with self.assertRaises(NoRule):
                    deed(COUNTER, self.state, *bad_rules, *bad_beats)
            if beats:
                with self.assertRaises(NoBeat):
                    deed(COUNTER, self.state, *rules, *bad_beats, off=None)

    def test_of_a_book_without_rules(self):
        book = Book((2,))
        with self.assertRaises(NoRule):
            times(book, ((0,), ()), 0, 1)
        with self.assertRaises(NoOff):
            state_at(book, ((0,), ()), 0, off=(0,))
        self.assertEqual(state_at(book, ((0,), ()), 0, off=()), ((0,), ()))


class Parameters(unittest.TestCase):
    state = ((0,), (0,))

    def test_by_name(self):
        self.assertEqual(state_at(off=(0,), beats=2, state=self.state, book=COUNTER), ((0,), (0,)))
        self.assertEqual(round_of(off=(0,), state=self.state, book=COUNTER), (0, 1))
        self.assertEqual(quiet_from(off=(0,), state=self.state, book=COUNTER), 0)
        self.assertEqual(times(beats=4, rule=0, state=self.state, book=COUNTER), 4)
        self.assertEqual(nth(many=4, rule=0, state=self.state, book=COUNTER), 3)
        self.assertEqual(nth(COUNTER, self.state, rule=0), 0)

    def test_put_off_only_by_name(self):
        for deed, parts in ((state_at, (1,)), (round_of, ()), (quiet_from, ()), (times, (0, 1)), (nth, (0, 1))):
            with self.assertRaises(TypeError):
                deed(COUNTER, self.state, *parts, ())


if __name__ == "__main__":
    unittest.main()
