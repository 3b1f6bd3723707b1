import itertools
import random
import unittest

from hushrules.beats import all_states
from hushrules.books import Book
from hushrules.errors import NoState
from hushrules.orders import orders, outcomes, shows_orders
from tests.models import MOST, NO_NUMBERS, all_values, awake, is_state, lines, no_papers, same_but_equal, strict, twisted
from tests.samples import ANY_THINGS, COUNTER, DESK, WATCH, rule, some_book, some_rule, some_runs, some_wheels, walk

EMPTY = Book((2, 2))
# The last that puts the wheel wins.
PUTS = Book((3,), (rule((), (("put", 0, 1),)), rule((), (("put", 0, 2),))))
# Each turns a wheel of its own, so it's all one which is asked first.
APART = Book((2, 3), (rule((), (("turn", 0, 1),)), rule((), (("turn", 1, 1),), ((1, 2),))))
# The wheel climbs; at the last place the rule 1 hushes the rule 2, if it is asked ahead of it.
LATE = Book((4,), (
    rule((("below", 0, 3),), (("turn", 0, 1),)),
    rule((("is", 0, 3), ("awake", 2)), (), ((2, 3),)),
    rule((("is", 0, 3),), (("put", 0, 3),)),
))
# The rule 0 turns at place 2 alone, and then puts the wheel where the rule 1 then does, or has been asked already.
TAIL = Book((3,), (rule((("is", 0, 2),), (("put", 0, 1),)), rule((("is", 0, 1),), (("put", 0, 0),))))
# None changes any thing but by itself; five of them.
FIVE = Book((2, 2), tuple(rule((), (("turn", number // 3, 1),), ((number, number // 2 + 1),)) for number in range(5)))


def some_late_book(dice):
    """The rules other than the first one do only while it is hushed, beats behind it: so orders matter late, if ever."""
    wheels = some_wheels(dice)
    many = dice.randint(3, 5)
    rules = [some_rule(dice, wheels, many) for _ in range(many)]
    test, changes, _, _ = rules[0]
    rules[0] = rule(test, changes, ((0, 3), *[(number, dice.randint(1, 2)) for number in range(1, many)]))
    for number in range(1, many):
        test, changes, hushes, wakes = rules[number]
        rules[number] = rule((("hushed", 0), *test[:1]), changes, hushes, wakes)
    return Book(wheels, tuple(rules))


def model_outcomes(book, state):
    return sorted({walk(book, state, 1, order=order)[1][0] for order in itertools.permutations(range(len(book)))})


def model_orders(book):
    runs = lines(book)
    for values, line in runs.items():
        for n, state in enumerate(line.states):
            if len(model_outcomes(book, state)) > 1:
                own = walk(book, state, 1)[1][0]
                for order in itertools.permutations(range(len(book))):
                    if walk(book, state, 1, order=order)[1][0] != own:
                        return ("matters", values, n, order)
    return ("free", tuple(sorted({state for line in runs.values() for state in line.states})))


def is_paper(book, thing):
    """Looks at a paper slowly, by what the document says of it."""
    if type(thing) is not tuple or len(thing) not in (2, 4) or type(thing[0]) is not str:
        return False
    if thing[0] == "free" and len(thing) == 2 and type(thing[1]) is tuple:
        lot = [strict(state) for state in thing[1]]
        if not all(is_state(book, state) for state in thing[1]):
            return False
        if not all(strict(awake(book, values)) in lot for values in all_values(book)):
            return False
        told = [model_outcomes(book, state) for state in thing[1]]
        return all(len(states) == 1 and strict(states[0]) in lot for states in told)
    if thing[0] == "matters" and len(thing) == 4:
        values, n, order = thing[1:]
        if strict(values) not in map(strict, all_values(book)) or type(n) is not int or not 0 <= n <= MOST:
            return False
        if strict(order) not in map(strict, itertools.permutations(range(len(book)))):
            return False
        state = lines(book)[values].state(n)
        return walk(book, state, 1, order=order)[1][0] != walk(book, state, 1)[1][0]
    return False


class Outcomes(unittest.TestCase):
    def test_by_hand(self):
        self.assertEqual(repr(outcomes(PUTS, ((0,), (0, 0)))), repr([((1,), (0, 0)), ((2,), (0, 0))]))
        self.assertEqual(outcomes(PUTS, ((0,), (1, 0))), [((2,), (0, 0))])
        self.assertEqual(outcomes(PUTS, ((0,), (2, 2))), [((0,), (1, 1))])
        self.assertEqual(outcomes(APART, ((0, 0), (0, 0))), [((1, 1), (0, 1))])
        self.assertEqual(outcomes(TAIL, ((2,), (0, 0))), [((0,), (0, 0)), ((1,), (0, 0))])
        self.assertEqual(outcomes(LATE, ((3,), (0, 0, 0))), [((3,), (0, 0, 2))])

    def test_hushes_alone_make_outcomes(self):
        book = Book((2,), (rule((), (), ((1, 3),)), rule((), (), ((0, 2),))))
        self.assertEqual(outcomes(book, ((0,), (0, 0))), [((0,), (0, 2)), ((0,), (1, 0))])

    def test_without_rules(self):
        for values in all_values(EMPTY):
            self.assertEqual(outcomes(EMPTY, (values, ())), [(values, ())])

    def test_against_beats_by_all_orders(self):
        many = {}
        for book, state, _ in some_runs(61, 400):
            told = outcomes(book, state)
            self.assertIs(type(told), list)
            self.assertEqual(repr(told), repr(model_outcomes(book, state)))
            self.assertEqual(len(told), len(set(told)))
            many[len(book), len(told)] = True
        self.assertIn((0, 1), many)
        self.assertTrue(any(rules == 5 and states == 1 for rules, states in many))
        self.assertTrue(any(rules == 5 and states > 4 for rules, states in many), many)

    def test_with_what_is_never_come_to(self):
        for state in all_states(FIVE)[::37]:
            self.assertEqual(outcomes(FIVE, state), model_outcomes(FIVE, state))

    def test_the_list_is_the_askers_own(self):
        told = outcomes(PUTS, ((0,), (0, 0)))
        kept = list(told)
        told.reverse()
        told.append(None)
        self.assertEqual(outcomes(PUTS, ((0,), (0, 0))), kept)
        self.assertIsNot(outcomes(PUTS, ((0,), (0, 0))), outcomes(PUTS, ((0,), (0, 0))))

    def test_no_state(self):
        wrong = [((0,), (3,)), ((3,), (0,)), ((0,), (True,)), ((False,), (0,)), ((0,), ()), ([0], (0,)), [(0,), (0,)], ((0,),)]
        for thing in wrong + ANY_THINGS:
            with self.assertRaises(NoState, msg=repr(thing)[:80]):
                outcomes(COUNTER, thing)

    def test_by_name(self):
        self.assertEqual(outcomes(state=((1,), (0,)), book=COUNTER), [((2,), (0,))])


class Orders(unittest.TestCase):
    def test_free(self):
        self.assertEqual(repr(orders(COUNTER)), repr(("free", tuple(((n,), (0,)) for n in range(3)))))
        self.assertEqual(orders(EMPTY), ("free", tuple((values, ()) for values in all_values(EMPTY))))
        self.assertEqual(orders(APART), ("free", tuple(
            (values, (0, left)) for values in all_values(APART) for left in (0, 1)
        )))
        self.assertEqual(orders(FIVE)[0], "free")

    def test_matters(self):
        self.assertEqual(repr(orders(PUTS)), repr(("matters", (0,), 0, (1, 0))))
        self.assertEqual(orders(TAIL), ("matters", (2,), 0, (1, 0)))

    def test_the_first_beat(self):
        # At the last place but one, the rule 1 is asked behind the rule 0, or ahead of it.
        self.assertEqual(orders(LATE), ("matters", (0,), 2, (1, 0, 2)))

    def test_another_beginning_and_beat(self):
        # At place 1 the rule 0 hushes all; two beats later the others put the wheel, the last one wins.
        book = Book((3,), (
            rule((("is", 0, 1),), (), ((0, 3), (1, 2), (2, 2))),
            rule((("hushed", 0),), (("put", 0, 0),)), rule((("hushed", 0),), (("put", 0, 2),)),
        ))
        self.assertEqual(orders(book), ("matters", (1,), 2, (0, 2, 1)))

    def test_the_least_order(self):
        # The rules 0 and 1 go together; the rules 2 and 3 do not.
        book = Book((2, 3), (
            rule(), rule(), rule((), (("put", 1, 1),)), rule((), (("put", 1, 2),)),
        ))
        self.assertEqual(orders(book), ("matters", (0, 0), 0, (0, 1, 3, 2)))

    def test_states_that_are_never_come_to_are_not_asked(self):
        book = Book((2,), (rule((("hushed", 0),)), rule((("hushed", 0),), (("put", 0, 0),)), rule((("hushed", 0),), (("put", 0, 1),))))
        self.assertEqual(len(outcomes(book, ((0,), (2, 0, 0)))), 2)
        self.assertEqual(orders(book), ("free", (((0,), (0, 0, 0)), ((1,), (0, 0, 0)))))

    def test_the_same_state_by_other_rules(self):
        # Which of the two does hangs on the order, but the state then does not.
        book = Book((2,), (
            rule((("awake", 1),), (("put", 0, 1),), ((0, 1), (1, 1))), rule((("awake", 0),), (("put", 0, 1),), ((0, 1), (1, 1))),
        ))
        self.assertEqual(orders(book), ("free", (((0,), (0, 0)), ((1,), (0, 0)))))

    def test_against_walks(self):
        heads = {}
        dice = random.Random(64)
        for book in [book for book, _, _ in some_runs(62, 250)] + [some_late_book(dice) for _ in range(100)]:
            told = orders(book)
            self.assertEqual(repr(told), repr(model_orders(book)), (book.wheels, book.rules))
            self.assertIs(shows_orders(book, told), True)
            self.assertEqual(repr(orders(book=book)), repr(told))
            kind = (told[0],)
            if told[0] == "matters":
                kind = (told[0], told[1] != all_values(book)[0], told[2] > 0)
            heads[kind] = heads.get(kind, 0) + 1
        self.assertGreater(heads["free",], 50)
        for least in (True, False):
            for later in (True, False):
                self.assertGreater(heads.get(("matters", least, later), 0), 2, heads)

    def test_asked_twice(self):
        for book in (PUTS, APART, LATE, FIVE):
            self.assertEqual(repr(orders(book)), repr(orders(book)))


class FreePapers(unittest.TestCase):
    lot = orders(APART)[1]

    def shows(self, lot):
        return shows_orders(APART, ("free", lot))

    def test_the_told_one(self):
        self.assertIs(self.shows(self.lot), True)

    def test_in_another_row_and_twice(self):
        self.assertIs(self.shows(self.lot[::-1]), True)
        self.assertIs(self.shows(self.lot * 2), True)
        self.assertIs(self.shows((self.lot[3],) + self.lot), True)

    def test_very_many_twice(self):
        self.assertIs(self.shows(self.lot * 3000), True)

    def test_more_closed_states(self):
        self.assertIs(self.shows(tuple(all_states(APART))), True)
        self.assertIs(self.shows(self.lot + (((0, 0), (1, 0)),)), True)
        self.assertIs(self.shows(self.lot + (((0, 0), (2, 2)),)), False)
        self.assertIs(self.shows(self.lot + (((0, 0), (2, 2)), ((0, 0), (1, 1)))), True)

    def test_left_out(self):
        for n in range(len(self.lot)):
            self.assertIs(self.shows(self.lot[:n] + self.lot[n + 1:]), False, n)
        self.assertIs(self.shows(()), False)

    def test_a_beginning_left_out_to_which_nothing_leads(self):
        book = Book((3,), (rule((("below", 0, 2),), (("turn", 0, 1),)),))
        lot = orders(book)[1]
        self.assertIs(shows_orders(book, ("free", lot)), True)
        self.assertIs(shows_orders(book, ("free", lot[1:])), False)

    def test_a_state_with_two_outcomes(self):
        self.assertIs(shows_orders(TAIL, ("free", tuple(((n,), (0, 0)) for n in range(3)))), False)
        # Orders never matter, but do from a state that is never come to.
        book = Book((2,), (rule((("hushed", 0),)), rule((("hushed", 0),), (("put", 0, 0),)), rule((("hushed", 0),), (("put", 0, 1),))))
        lot = (((0,), (0, 0, 0)), ((1,), (0, 0, 0)))
        self.assertIs(shows_orders(book, ("free", lot)), True)
        self.assertIs(shows_orders(book, ("free", lot + (((0,), (1, 0, 0)),))), False)
        self.assertIs(shows_orders(book, ("free", lot + (((0,), (0, 1, 0)),))), True)

    def test_no_states(self):
        for thing in [None, 0, (0, 0), ((0, 0), (0,)), ((2, 0), (0, 0)), ((0, 0), (0, 3)), ((0, 0), (0, -1)), [(0, 0), (0, 0)],
                      ((0, 0), [0, 0]), ((False, 0), (0, 0)), ((0, 0), (0, True)), ((0, 0), (0, 0), ()), WATCH, DESK, *ANY_THINGS]:
            for n in (0, 3, len(self.lot)):
                self.assertIs(self.shows(self.lot[:n] + (thing,) + self.lot[n:]), False, repr(thing)[:80])

    def test_truths_and_lists_in_it(self):
        for other in same_but_equal(("free", self.lot)):
            self.assertIs(shows_orders(APART, other), False, other)

    def test_heads(self):
        for paper in [("free",), ("free", self.lot, ()), ("Free", self.lot), ("matters", self.lot), ("never", self.lot), (self.lot,),
                      self.lot, ["free", self.lot], (None, self.lot), ("free", None), ("free", "x"), (WATCH, self.lot)]:
            self.assertIs(shows_orders(APART, paper), False)

    def test_without_rules(self):
        lot = tuple((values, ()) for values in all_values(EMPTY))
        self.assertIs(shows_orders(EMPTY, ("free", lot)), True)
        self.assertIs(shows_orders(EMPTY, ("free", lot[1:])), False)
        self.assertIs(shows_orders(EMPTY, ("matters", (0, 0), 0, ())), False)


class MattersPapers(unittest.TestCase):
    def shows(self, values, n, order, book=LATE):
        return shows_orders(book, ("matters", values, n, order))

    def test_the_told_one(self):
        self.assertIs(self.shows((0,), 2, (1, 0, 2)), True)

    def test_other_right_ones(self):
        self.assertIs(self.shows((1,), 1, (1, 0, 2)), True)
        self.assertIs(self.shows((2,), 0, (1, 0, 2)), True)
        self.assertIs(self.shows((2,), 0, (1, 2, 0)), True)
        self.assertIs(self.shows((2,), 0, (2, 1, 0)), True)

    def test_wrong_beginnings_and_beats(self):
        for values, n in [((0,), 0), ((0,), 1), ((0,), 3), ((1,), 0), ((1,), 2), ((3,), 0), ((3,), 1), ((0,), MOST)]:
            self.assertIs(self.shows(values, n, (1, 0, 2)), False, (values, n))

    def test_orders_that_lead_there_too(self):
        # The book's own order leads nowhere else, nor does one by which the rule 1 comes behind the rule 0.
        self.assertIs(self.shows((0,), 2, (0, 1, 2)), False)
        self.assertIs(self.shows((0,), 2, (0, 2, 1)), False)
        self.assertIs(self.shows((0,), 2, (2, 0, 1)), False)

    def test_against_walks(self):
        for book in (LATE, PUTS, TAIL, APART):
            for values in all_values(book):
                for n in (0, 1, 2, 3, 4, 7, MOST - 1, MOST):
                    for order in itertools.permutations(range(len(book))):
                        paper = ("matters", values, n, order)
                        self.assertIs(shows_orders(book, paper), is_paper(book, paper), paper)

    def test_orders_that_are_none(self):
        for order in [(), (1,), (1, 0), (0, 1, 2, 2), (1, 0, 2, 3), (1, 0, 3), (1, 0, -1), (1, 1, 2), [1, 0, 2], (True, 0, 2),
                      (1, False, 2), ("1", "0", "2"), "102", None, 102, ((1, 0, 2),), WATCH, DESK, LATE, *ANY_THINGS]:
            self.assertIs(self.shows((0,), 2, order), False, repr(order)[:80])

    def test_sixty_and_sixty_one_figures(self):
        for n in (0, 1, 2, 10 ** 59, MOST - 1, MOST):
            self.assertIs(self.shows((0,), n, (1, 0), PUTS), True)
        for n in NO_NUMBERS:
            self.assertIs(self.shows((0,), n, (1, 0), PUTS), False, n)

    def test_no_beginnings(self):
        for values in [(3,), (-1,), (True,), (False,), [0], 0, (), (0, 0), ((0,), (0, 0)), (((0,), (0, 0)),), None, "0", WATCH,
                       *[thing for thing in ANY_THINGS if repr(thing) != "(0,)"]]:
            self.assertIs(self.shows(values, 0, (1, 0), PUTS), False, repr(values)[:80])

    def test_truths_and_lists_in_it(self):
        for other in same_but_equal(("matters", (1,), 1, (1, 0, 2))):
            self.assertIs(shows_orders(LATE, other), False, other)

    def test_heads(self):
        for paper in [("matters", (0,), 2), ("matters", (0,), 2, (1, 0, 2), ()), ["matters", (0,), 2, (1, 0, 2)],
                      ("matter", (0,), 2, (1, 0, 2)), ("free", (0,), 2, (1, 0, 2)), (None, (0,), 2, (1, 0, 2)),
                      ("matters", 2, (0,), (1, 0, 2)), ("matters", (0,), (1, 0, 2), 2), ((0,), 2, (1, 0, 2))]:
            self.assertIs(shows_orders(LATE, paper), False, paper)


class AnyPapers(unittest.TestCase):
    def test_any_things(self):
        for paper in no_papers("free", "matters"):
            for book in (APART, LATE, EMPTY):
                self.assertIs(shows_orders(book, paper), False, repr(paper)[:80])
        for thing in ANY_THINGS:
            self.assertIs(shows_orders(LATE, ("matters", thing, thing, thing)), False, repr(thing)[:80])

    def test_what_was_told_put_otherwise(self):
        dice = random.Random(63)
        let_by = refused = 0
        heads = {}
        while let_by < 150 or refused < 2500:
            book = some_book(dice)
            if len(book) > 3 or len(all_values(book)) > 8:
                continue
            told = orders(book)
            if told[0] == "free" and len(told[1]) > 20:
                continue
            heads[told[0]] = True
            others = list(twisted(told, told[1] if told[0] == "free" else ()))
            for paper in dice.sample(others, min(len(others), 60)):
                right = is_paper(book, paper)
                self.assertIs(shows_orders(book, paper), right, (book.wheels, book.rules, paper))
                let_by += right
                refused += not right
        self.assertEqual(len(heads), 2)

    def test_papers_of_another_book(self):
        for one in (APART, LATE, PUTS, TAIL, COUNTER, FIVE):
            for other in (APART, LATE, PUTS, TAIL, COUNTER):
                self.assertIs(shows_orders(one, orders(other)), is_paper(one, orders(other)))

    def test_by_name(self):
        self.assertIs(shows_orders(paper=("matters", (0,), 0, (1, 0)), book=PUTS), True)


if __name__ == "__main__":
    unittest.main()
