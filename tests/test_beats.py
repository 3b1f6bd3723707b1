import itertools
import random
import unittest

from hushrules.beats import ahead, beat, may_do
from hushrules.books import Book, beginnings, is_state
from hushrules.errors import NoOff, NoOrder, NoRule, NoState
from tests.samples import ANY_THINGS, COUNTER, TURN, rule, some_book, some_runs, some_state, walk

EMPTY = rule()


def hush(number, beats):
    return rule(hushes=((number, beats),))


def wake(number):
    return rule(wakes=(number,))


def turn_if(*test):
    return rule(test=test, changes=(("turn", 0, 1),))


def all_states(book):
    lefts = itertools.product(range(3), repeat=len(book))
    return [(values, left) for values, left in itertools.product(beginnings(book), lefts)]


class ByHand(unittest.TestCase):
    def told(self, book, state, done, then, **named):
        self.assertEqual(repr(beat(book, state, **named)), repr((done, then)))

    def test_without_rules(self):
        self.told(Book((2, 3)), ((1, 2), ()), (), ((1, 2), ()))

    def test_a_wheel_goes_on_and_round(self):
        self.told(COUNTER, ((0,), (0,)), (0,), ((1,), (0,)))
        self.told(COUNTER, ((2,), (0,)), (0,), ((0,), (0,)))
        by_two = Book((3, 4), (rule(changes=(("turn", 0, 2), ("turn", 1, 3))),))
        self.told(by_two, ((2, 2), (0,)), (0,), ((1, 1), (0,)))
        stays = Book((3,), (rule(changes=(("turn", 0, 0),)),))
        self.told(stays, ((2,), (0,)), (0,), ((2,), (0,)))

    def test_a_wheel_is_put(self):
        book = Book((4, 2), (rule(changes=(("put", 0, 3), ("put", 1, 0))),))
        self.told(book, ((1, 1), (0,)), (0,), ((3, 0), (0,)))

    def test_changes_are_done_one_behind_another(self):
        put_turn = Book((4,), (rule(changes=(("put", 0, 2), ("turn", 0, 1))),))
        turn_put = Book((4,), (rule(changes=(("turn", 0, 1), ("put", 0, 2))),))
        thrice = Book((4,), (rule(changes=(("turn", 0, 3), ("turn", 0, 3), ("turn", 0, 1))),))
        self.told(put_turn, ((0,), (0,)), (0,), ((3,), (0,)))
        self.told(turn_put, ((0,), (0,)), (0,), ((2,), (0,)))
        self.told(thrice, ((0,), (0,)), (0,), ((3,), (0,)))

    def test_each_condition(self):
        for word, so in (("is", lambda at: at == 2), ("not", lambda at: at != 2), ("below", lambda at: at < 2)):
            book = Book((4,), (turn_if((word, 0, 2)),))
            for at in range(4):
                if so(at):
                    self.told(book, ((at,), (0,)), (0,), (((at + 1) % 4,), (0,)))
                else:
                    self.told(book, ((at,), (0,)), (), ((at,), (0,)))
        never = Book((4,), (turn_if(("below", 0, 0)),))
        for at in range(4):
            self.told(never, ((at,), (0,)), (), ((at,), (0,)))

    def test_all_conditions_must_hold(self):
        book = Book((2, 3), (turn_if(("is", 0, 0), ("not", 1, 0), ("below", 1, 2), ("awake", 0)),))
        self.told(book, ((0, 1), (0,)), (0,), ((1, 1), (0,)))
        for values in ((1, 1), (0, 0), (0, 2)):
            self.told(book, (values, (0,)), (), (values, (0,)))

    def test_conditions_on_rules(self):
        book = Book((4,), (turn_if(("hushed", 2)), turn_if(("awake", 2)), EMPTY))
        self.told(book, ((0,), (0, 0, 0)), (1, 2), ((1,), (0, 0, 0)))
        self.told(book, ((0,), (0, 0, 1)), (0,), ((1,), (0, 0, 0)))
        self.told(book, ((0,), (0, 0, 2)), (0,), ((1,), (0, 0, 1)))
        itself = Book((4,), (turn_if(("hushed", 0)), turn_if(("awake", 1))))
        self.told(itself, ((0,), (0, 0)), (1,), ((1,), (0, 0)))
        self.told(itself, ((0,), (1, 0)), (1,), ((1,), (0, 0)))

    def test_conditions_on_rules_are_of_that_moment(self):
        book = Book((4,), (hush(2, 1), turn_if(("hushed", 2)), EMPTY, wake(2), turn_if(("awake", 2))))
        self.told(book, ((0,), (0, 0, 0, 0, 0)), (0, 1, 3, 4), ((2,), (0, 0, 0, 0, 0)))
        self.told(book, ((0,), (1, 0, 0, 1, 0)), (2, 4), ((1,), (0, 0, 0, 0, 0)))

    def test_values_are_of_that_moment(self):
        book = Book((4,), (turn_if(("is", 0, 0)), turn_if(("is", 0, 1)), turn_if(("is", 0, 0)), turn_if(("is", 0, 2))))
        self.told(book, ((0,), (0, 0, 0, 0)), (0, 1, 3), ((3,), (0, 0, 0, 0)))
        self.told(book, ((0,), (0, 0, 0, 0)), (0,), ((1,), (0, 0, 0, 0)), order=(3, 1, 0, 2))
        self.told(book, ((0,), (0, 0, 0, 0)), (2, 1, 3), ((3,), (0, 0, 0, 0)), order=(2, 1, 0, 3))

    def test_hushes_one_behind_it(self):
        for beats in (1, 2, 3):
            book = Book((3,), (hush(1, beats), TURN))
            self.told(book, ((0,), (0, 0)), (0,), ((0,), (0, beats - 1)))

    def test_hushes_one_that_came_ahead_of_it(self):
        for beats in (1, 2, 3):
            book = Book((3,), (TURN, hush(0, beats)))
            self.told(book, ((0,), (0, 0)), (0, 1), ((1,), (beats - 1, 0)))

    def test_hushes_itself(self):
        for beats in (1, 2, 3):
            book = Book((3,), (rule(changes=(("turn", 0, 1),), hushes=((0, beats),)),))
            self.told(book, ((0,), (0,)), (0,), ((1,), (beats - 1,)))

    def test_wakes_one_behind_it(self):
        book = Book((3,), (wake(1), TURN))
        for left in (0, 1, 2):
            self.told(book, ((0,), (0, left)), (0, 1), ((1,), (0, 0)))

    def test_wakes_one_that_came_ahead_of_it(self):
        book = Book((3,), (TURN, wake(0)))
        self.told(book, ((0,), (1, 0)), (1,), ((0,), (0, 0)))
        self.told(book, ((0,), (2, 0)), (1,), ((0,), (0, 0)))
        self.told(book, ((0,), (0, 0)), (0, 1), ((1,), (0, 0)))

    def test_wakes_itself(self):
        book = Book((3,), (rule(changes=(("turn", 0, 1),), wakes=(0,)),))
        self.told(book, ((0,), (0,)), (0,), ((1,), (0,)))
        self.told(book, ((0,), (2,)), (), ((0,), (1,)))

    def test_hushes_one_that_is_hushed_already(self):
        for left in (0, 1, 2):
            for beats in (1, 2, 3):
                book = Book((2,), (hush(1, beats), EMPTY))
                self.told(book, ((0,), (0, left)), (0,), ((0,), (0, max(left, beats) - 1)))

    def test_hushed_twice_in_a_beat(self):
        longer_first = Book((2,), (hush(2, 3), hush(2, 1), EMPTY))
        shorter_first = Book((2,), (hush(2, 1), hush(2, 3), EMPTY))
        for book in (longer_first, shorter_first):
            self.told(book, ((0,), (0, 0, 0)), (0, 1), ((0,), (0, 0, 2)))

    def test_hushed_and_woken_in_a_beat(self):
        woken_last = Book((3,), (hush(2, 3), wake(2), TURN))
        self.told(woken_last, ((0,), (0, 0, 0)), (0, 1, 2), ((1,), (0, 0, 0)))
        hushed_last = Book((3,), (wake(2), hush(2, 2), TURN))
        self.told(hushed_last, ((0,), (0, 0, 2)), (0, 1), ((0,), (0, 0, 1)))

    def test_one_that_is_hushed_hushes_and_wakes_none(self):
        book = Book((3,), (hush(1, 3), TURN, wake(3), TURN))
        self.told(book, ((0,), (1, 0, 2, 2)), (1,), ((1,), (0, 0, 1, 1)))

    def test_many_are_hushed_and_woken_at_once(self):
        first = rule(hushes=((0, 1), (1, 2), (3, 3)), wakes=(2, 4))
        book = Book((4,), (first, TURN, TURN, TURN, TURN))
        self.told(book, ((0,), (0, 0, 2, 0, 1)), (0, 2, 4), ((2,), (0, 1, 0, 2, 0)))

    def test_each_is_hushed_for_a_beat_less_at_the_end(self):
        book = Book((2,), (EMPTY, EMPTY, EMPTY))
        self.told(book, ((0,), (0, 1, 2)), (0,), ((0,), (0, 0, 1)))


class Orders(unittest.TestCase):
    book = Book((4, 2), (rule(changes=(("turn", 0, 1),), hushes=((1, 2),)), rule(changes=(("put", 0, 0),)), wake(1)))
    state = ((2, 1), (0, 0, 0))

    def test_each_order(self):
        told = {
            None: ((0, 2), ((3, 1), (0, 0, 0))),
            (0, 1, 2): ((0, 2), ((3, 1), (0, 0, 0))),
            (0, 2, 1): ((0, 2, 1), ((0, 1), (0, 0, 0))),
            (1, 0, 2): ((1, 0, 2), ((1, 1), (0, 0, 0))),
            (1, 2, 0): ((1, 2, 0), ((1, 1), (0, 1, 0))),
            (2, 0, 1): ((2, 0), ((3, 1), (0, 1, 0))),
            (2, 1, 0): ((2, 1, 0), ((1, 1), (0, 1, 0))),
        }
        for order, then in told.items():
            self.assertEqual(repr(beat(self.book, self.state, order=order)), repr(then), order)

    def test_put_off(self):
        self.assertEqual(beat(self.book, self.state, off=()), ((0, 2), ((3, 1), (0, 0, 0))))
        self.assertEqual(beat(self.book, self.state, off=(0,)), ((1, 2), ((0, 1), (0, 0, 0))))
        self.assertEqual(beat(self.book, self.state, off=(2,)), ((0,), ((3, 1), (0, 1, 0))))
        self.assertEqual(beat(self.book, self.state, off=(0, 1, 2)), ((), ((2, 1), (0, 0, 0))))
        self.assertEqual(beat(self.book, self.state, order=(1, 0, 2), off=(1, 2)), ((0,), ((3, 1), (0, 1, 0))))

    def test_one_that_is_put_off_is_hushed_and_awake_as_others(self):
        book = Book((4,), (turn_if(("awake", 1)), EMPTY, hush(1, 2)))
        self.assertEqual(beat(book, ((0,), (0, 0, 0)), off=(1,)), ((0, 2), ((1,), (0, 1, 0))))
        self.assertEqual(beat(book, ((0,), (0, 2, 1)), off=(1,)), ((), ((0,), (0, 1, 0))))

    def test_of_a_book_without_rules(self):
        self.assertEqual(beat(Book((2,)), ((1,), ()), order=(), off=()), ((), ((1,), ())))

    def test_what_is_no_order(self):
        wrong = [
            (), (0,), (0, 1), (0, 1, 2, 3), (0, 0, 1), (0, 1, 1), (0, 1, 3), (-1, 0, 1), (0, 1, 2, 2), [0, 1, 2],
            (0, True, 2), (False, 1, 2), (0, 1, "2"), (0, 1, None), "012", ((0, 1, 2),), (0, 1, (2,)), (2, 1), 0,
        ]
        for order in wrong + ANY_THINGS:
            if order is not None:
                with self.assertRaises(NoOrder, msg=repr(order)[:80]):
                    beat(self.book, self.state, order=order)
        with self.assertRaises(NoOrder):
            beat(Book((2,)), ((1,), ()), order=(0,))

    def test_what_cannot_be_put_off(self):
        wrong = [
            (3,), (-1,), (1, 0), (0, 0), (0, 2, 1), (0, 1, 2, 2), (0, 1, 2, 3), [0], [], None, (True,), (False,),
            (0, True), ("0",), (None,), "0", 0, ((0,),),
        ]
        for off in wrong + ANY_THINGS:
            if off not in ((), (0,)):
                with self.assertRaises(NoOff, msg=repr(off)[:80]):
                    beat(self.book, self.state, off=off)
        with self.assertRaises(NoOff):
            beat(Book((2,)), ((1,), ()), off=(0,))

    def test_what_is_no_state(self):
        wrong = [((0, 0), (0, 0, 3)), ((0, 0), (0, 0)), ((0, 0), (0, 0, True)), ([0, 0], (0, 0, 0)), ((4, 0), (0, 0, 0))]
        for state in wrong + ANY_THINGS:
            with self.assertRaises(NoState, msg=repr(state)[:80]):
                beat(self.book, state)

    def test_which_refusal_is_made(self):
        for state, order, off, error in (
            (None, None, (), NoState), (None, (), None, NoState), (None, None, None, NoState), (None, (), (), NoState),
            (self.state, (), None, NoOrder), (self.state, (), (), NoOrder), (self.state, None, None, NoOff),
            (self.state, (0, 1, 2), None, NoOff),
        ):
            with self.assertRaises(error):
                beat(self.book, state, order=order, off=off)

    def test_by_name(self):
        told = beat(off=(1,), order=(2, 1, 0), state=self.state, book=self.book)
        self.assertEqual(told, ((2, 0), ((3, 1), (0, 1, 0))))
        with self.assertRaises(TypeError):
            beat(self.book, self.state, (2, 1, 0))

    def test_against_a_model(self):
        dice = random.Random(7)
        for book, state, off in some_runs(1, 400):
            order = tuple(dice.sample(range(len(book)), len(book)))
            for named in ({}, {"off": off}, {"order": order}, {"order": order, "off": off}):
                (_, done), (then, _) = walk(book, state, 1, **named)
                told = beat(book, state, **named)
                self.assertEqual(repr(told), repr((done, then)), (str(book), state, named))
                self.assertIs(is_state(book, told[1]), True)
                self.assertEqual(beat(book, state, **named), told)


class MayDo(unittest.TestCase):
    def test_awake_and_its_test_holds(self):
        book = Book((2,), (turn_if(("is", 0, 1)), turn_if(("hushed", 0)), turn_if(("awake", 0)), EMPTY))
        for left in (0, 1, 2):
            self.assertIs(may_do(book, ((1,), (left, 0, 0, 0)), 0), left == 0)
            self.assertIs(may_do(book, ((0,), (left, 0, 0, 0)), 0), False)
            self.assertIs(may_do(book, ((0,), (left, 0, 0, 0)), 1), left > 0)
            self.assertIs(may_do(book, ((0,), (left, 0, 0, 0)), 2), left == 0)
            self.assertIs(may_do(book, ((0,), (left, 1, 1, 2)), 1), False)
            self.assertIs(may_do(book, ((0,), (0, 0, 0, left)), 3), left == 0)

    def test_the_first_that_is_asked_does_where_it_may(self):
        for book, state, _ in some_runs(2, 150):
            for number in range(len(book)):
                others = [other for other in range(len(book)) if other != number]
                done, _ = beat(book, state, order=(number, *others), off=tuple(others))
                self.assertIs(may_do(book, state, number), done == (number,))

    def test_refusals(self):
        state = ((0,), (0,))
        for number in [-1, 1, 5, True, False, None, "0", [0], (0,), 10 ** 79]:
            with self.assertRaises(NoRule) as refused:
                may_do(COUNTER, state, number)
            self.assertIs(refused.exception.rule, number)
        for thing in ANY_THINGS:
            if type(thing) is not int or thing != 0:
                with self.assertRaises(NoRule) as refused:
                    may_do(COUNTER, state, thing)
                self.assertIs(refused.exception.rule, thing)
            with self.assertRaises(NoState, msg=repr(thing)[:80]):
                may_do(Book((2, 2), (TURN,)), thing, 0)
            with self.assertRaises(NoState):
                may_do(Book((2, 2), (TURN,)), thing, thing)
        with self.assertRaises(NoRule):
            may_do(Book((2,)), ((0,), ()), 0)

    def test_by_name(self):
        self.assertIs(may_do(rule=0, state=((0,), (0,)), book=COUNTER), True)


class Ahead(unittest.TestCase):
    def test_by_hand(self):
        self.assertEqual(repr(ahead(COUNTER, ((1,), (0,)))), repr([((0,), (0,)), ((1,), (1,))]))
        self.assertEqual(repr(ahead(COUNTER, ((0,), (0,)))), repr([((0,), (1,)), ((2,), (0,))]))
        self.assertEqual(repr(ahead(COUNTER, ((0,), (1,)))), repr([((0,), (2,))]))
        self.assertEqual(repr(ahead(COUNTER, ((0,), (2,)))), repr([]))

    def test_without_rules(self):
        self.assertEqual(ahead(Book((2, 2)), ((1, 0), ())), [((1, 0), ())])

    def test_against_a_beat_from_each_state(self):
        dice = random.Random(11)
        books = [some_book(dice) for _ in range(40)]
        for book in [book for book in books if 1 <= len(book) <= 3][:10]:
            led = {state: [] for state in all_states(book)}
            for state in all_states(book):
                led[beat(book, state)[1]].append(state)
            asked = list(led) if len(led) < 100 else [some_state(dice, book) for _ in range(20)]
            for state in asked:
                self.assertEqual(repr(ahead(book, state)), repr(led[state]))

    def test_by_the_books_own_order(self):
        book = Book((2,), (hush(1, 1), TURN))
        self.assertEqual(ahead(book, ((1,), (0, 0))), [
            state for state in all_states(book) if beat(book, state, order=(0, 1), off=())[1] == ((1,), (0, 0))
        ])
        self.assertNotIn(((0,), (0, 0)), ahead(book, ((1,), (0, 0))))

    def test_of_the_most_states(self):
        book = Book((4, 3, 2), (TURN, EMPTY, EMPTY, EMPTY, EMPTY))
        told = ahead(book, ((1, 2, 1), (0, 0, 0, 0, 0)))
        self.assertEqual(len(told), 32)
        self.assertEqual(told, sorted(set(told)))

    def test_the_list_is_the_askers_own(self):
        told = ahead(COUNTER, ((1,), (0,)))
        self.assertIs(type(told), list)
        told.clear()
        told.append(None)
        self.assertEqual(ahead(COUNTER, ((1,), (0,))), [((0,), (0,)), ((1,), (1,))])

    def test_refusals(self):
        for thing in ANY_THINGS + [((0, 0), (3,)), ((0, 0), ()), ((0,), (0,)), ((0, 0), (True,))]:
            with self.assertRaises(NoState, msg=repr(thing)[:80]):
                ahead(Book((2, 2), (TURN,)), thing)

    def test_by_name(self):
        self.assertEqual(ahead(state=((0,), (1,)), book=COUNTER), [((0,), (2,))])


if __name__ == "__main__":
    unittest.main()
