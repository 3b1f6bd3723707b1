import random
import unittest

from hushrules.books import Book
from hushrules.errors import NoOff, NoRule
from hushrules.lots import come_to, never, shows_never
from tests.models import MOST, NO_NUMBERS, all_values, awake, is_state, lines, no_papers, same_but_equal, strict, twisted
from tests.samples import ANY_THINGS, COUNTER, rule, some_book, some_runs, walk

# Goes on to the last place; the second rule would do at a place that is never stood at when it is asked.
CLIMBER = Book((3,), (
    rule((("below", 0, 2),), (("turn", 0, 1),)),
    rule((("is", 0, 0),)),
))
# The first rule does from place 1 on alone; the second one turns there from 3, and is hushed for a while behind it.
LATE = Book((4,), (
    rule((("is", 0, 1), ("hushed", 1))),
    rule((("is", 0, 3),), (("turn", 0, 2),), ((1, 3),)),
))
# Hushes itself, so that more states are come to than there are beginnings.
THIRD = Book((2,), (rule((), (("turn", 0, 1),), ((0, 3),)),))
EMPTY = Book((2, 2))


def model_never(book, number):
    runs = lines(book)
    for values, line in runs.items():
        for n, done in enumerate(line.dones):
            if number in done:
                return ("does", values, n)
    return ("never", tuple(sorted({state for line in runs.values() for state in line.states})))


def is_paper(book, number, thing):
    """Looks at a paper slowly, by what the document says of it."""
    if type(thing) is not tuple or len(thing) not in (2, 3) or type(thing[0]) is not str:
        return False
    if thing[0] == "never" and len(thing) == 2 and type(thing[1]) is tuple:
        lot = [strict(state) for state in thing[1]]
        if not all(is_state(book, state) for state in thing[1]):
            return False
        if not all(strict(awake(book, values)) in lot for values in all_values(book)):
            return False
        steps = [walk(book, state, 1) for state in thing[1]]
        return all(strict(then) in lot and number not in done for (_, done), (then, _) in steps)
    if thing[0] == "does" and len(thing) == 3:
        values, n = thing[1:]
        if strict(values) not in map(strict, all_values(book)) or type(n) is not int or not 0 <= n <= MOST:
            return False
        return number in lines(book)[values].done(n)
    return False


class ComeTo(unittest.TestCase):
    def test_by_hand(self):
        self.assertEqual(repr(come_to(COUNTER)), repr([((n,), (0,)) for n in range(3)]))
        self.assertEqual(come_to(THIRD), [((place,), (left,)) for place in (0, 1) for left in (0, 1, 2)])
        self.assertEqual(come_to(THIRD, off=(0,)), [((0,), (0,)), ((1,), (0,))])
        self.assertEqual(come_to(EMPTY), [((0, 0), ()), ((0, 1), ()), ((1, 0), ()), ((1, 1), ())])
        self.assertEqual(come_to(LATE), [
            ((0,), (0, 0)), ((1,), (0, 0)), ((1,), (0, 1)), ((1,), (0, 2)), ((2,), (0, 0)), ((3,), (0, 0)),
        ])

    def test_against_walks_from_all_beginnings(self):
        more = 0
        for book, _, off in some_runs(21, 150):
            for named in ({}, {"off": off}):
                states = {state for line in lines(book, **named).values() for state in line.states}
                told = come_to(book, **named)
                self.assertIs(type(told), list)
                self.assertEqual(repr(told), repr(sorted(states)))
                self.assertEqual(len(told), len(set(told)))
                more += len(states) > len(all_values(book))
        self.assertGreater(more, 50)

    def test_the_list_is_the_askers_own(self):
        first = come_to(THIRD)
        kept = list(first)
        first.reverse()
        first.append(None)
        self.assertEqual(come_to(THIRD), kept)
        self.assertIsNot(come_to(THIRD), come_to(THIRD))
        self.assertEqual(never(CLIMBER, 1), never(CLIMBER, 1))
        self.assertTrue(shows_never(THIRD, 0, never(THIRD, 0)))

    def test_put_off_in_one_answer_is_not_so_in_the_next(self):
        whole = come_to(THIRD)
        come_to(THIRD, off=(0,))
        self.assertEqual(come_to(THIRD), whole)

    def test_no_off(self):
        for off in [(1,), (-1,), (0, 0), (True,), (False,), [0], ["0"], *ANY_THINGS]:
            if strict(off) not in ("()", "(0,)"):
                with self.assertRaises(NoOff, msg=repr(off)[:80]):
                    come_to(COUNTER, off=off)
        with self.assertRaises(NoOff):
            come_to(CLIMBER, off=(1, 0))
        self.assertEqual(come_to(CLIMBER, off=(0, 1)), [((n,), (0, 0)) for n in range(3)])

    def test_by_name(self):
        self.assertEqual(come_to(off=(0,), book=THIRD), come_to(THIRD, off=(0,)))
        with self.assertRaises(TypeError):
            come_to(THIRD, ())


class Never(unittest.TestCase):
    def test_by_hand(self):
        self.assertEqual(repr(never(CLIMBER, 0)), repr(("does", (0,), 0)))
        self.assertEqual(repr(never(CLIMBER, 1)), repr(("never", tuple(((n,), (0, 0)) for n in range(3)))))
        self.assertEqual(never(LATE, 0), ("does", (3,), 1))
        self.assertEqual(never(LATE, 1), ("does", (3,), 0))

    def test_a_rule_that_is_hushed_ahead_never_does(self):
        book = Book((2,), (rule(hushes=((1, 1),)), rule()))
        self.assertEqual(never(book, 1), ("never", (((0,), (0, 0)), ((1,), (0, 0)))))
        self.assertTrue(shows_never(book, 1, never(book, 1)))

    def test_against_walks_from_all_beginnings(self):
        heads = {}
        for book, _, _ in some_runs(22, 600):
            for number in range(len(book)):
                told = never(book, number)
                self.assertEqual(repr(told), repr(model_never(book, number)))
                self.assertIs(shows_never(book, number, told), True)
                self.assertEqual(repr(never(book=book, rule=number)), repr(told))
                late = told[0] == "does" and told[2] > 0 and told[1] != all_values(book)[0]
                heads[told[0], late] = heads.get((told[0], late), 0) + 1
        self.assertTrue(all(heads[kind] > 10 for kind in (("never", False), ("does", True), ("does", False))), heads)

    def test_no_rule(self):
        paper = never(COUNTER, 0)
        for thing in [1, 5, *NO_NUMBERS, *[thing for thing in ANY_THINGS if repr(thing) != "0"]]:
            for deed in (lambda: never(COUNTER, thing), lambda: shows_never(COUNTER, thing, paper)):
                with self.assertRaises(NoRule, msg=repr(thing)[:80]) as refused:
                    deed()
                self.assertIs(refused.exception.rule, thing)
        with self.assertRaises(NoRule):
            never(EMPTY, 0)
        with self.assertRaises(NoRule):
            shows_never(EMPTY, 0, None)


class NeverPapers(unittest.TestCase):
    # The rule 0 never does; the rule 1 turns, and hushes itself.
    book = Book((2,), (rule((("is", 0, 0), ("is", 0, 1))), rule((), (("turn", 0, 1),), ((1, 2),))))
    lot = (((0,), (0, 0)), ((0,), (0, 1)), ((1,), (0, 0)), ((1,), (0, 1)))

    def shows(self, lot):
        return shows_never(self.book, 0, ("never", lot))

    def test_the_told_one(self):
        self.assertEqual(never(self.book, 0), ("never", self.lot))
        self.assertIs(self.shows(self.lot), True)

    def test_in_another_row_and_twice(self):
        self.assertIs(self.shows(self.lot[::-1]), True)
        self.assertIs(self.shows(self.lot + self.lot), True)
        self.assertIs(self.shows((self.lot[2],) + self.lot), True)

    def test_more_closed_states(self):
        self.assertIs(self.shows(self.lot + (((0,), (1, 0)),)), True)
        self.assertIs(self.shows(self.lot + (((1,), (2, 2)), ((1,), (1, 1)))), True)
        every = tuple((values, (one, other)) for values in ((0,), (1,)) for one in range(3) for other in range(3))
        self.assertIs(self.shows(every), True)

    def test_more_states_that_are_not_closed(self):
        self.assertIs(self.shows(self.lot + (((1,), (2, 2)),)), False)

    def test_left_out(self):
        for n in range(len(self.lot)):
            self.assertIs(self.shows(self.lot[:n] + self.lot[n + 1:]), False, n)
        self.assertIs(self.shows(()), False)
        # Its next states are in it, but no beginnings are.
        self.assertIs(shows_never(LATE, 0, ("never", (((0,), (0, 0)),))), False)

    def test_a_beginning_left_out_to_which_nothing_leads(self):
        self.assertIs(shows_never(CLIMBER, 1, ("never", (((0,), (0, 0)), ((1,), (0, 0)), ((2,), (0, 0))))), True)
        self.assertIs(shows_never(CLIMBER, 1, ("never", (((1,), (0, 0)), ((2,), (0, 0))))), False)

    def test_a_state_from_which_the_rule_does(self):
        lot = tuple(come_to(LATE))
        self.assertIs(shows_never(LATE, 0, ("never", lot)), False)
        self.assertIs(shows_never(LATE, 1, ("never", lot)), False)
        # The rule never does, but does from a state that is never come to.
        book = Book((2,), (rule((("hushed", 1),)), rule((("is", 0, 0), ("is", 0, 1)))))
        lot = (((0,), (0, 0)), ((1,), (0, 0)))
        self.assertIs(shows_never(book, 0, ("never", lot)), True)
        self.assertIs(shows_never(book, 0, ("never", lot + (((0,), (0, 1)),))), False)
        self.assertIs(shows_never(book, 1, ("never", lot + (((0,), (0, 1)),))), True)
        self.assertIs(shows_never(book, 0, ("never", lot + (((0,), (1, 0)),))), True)

    def test_no_states(self):
        for thing in [None, 0, True, (0,), ((0,), (0,)), ((2,), (0, 0)), ((0,), (0, 3)), ((0,), (0, -1)), ((0, 0), (0, 0)),
                      [(0,), (0, 0)], ((0,), [0, 0]), ([0], (0, 0)), ((False,), (0, 0)), ((0,), (0, True)), COUNTER, "x",
                      ((0,), (0, 0), ()), *ANY_THINGS]:
            for n in (0, 2, 4):
                self.assertIs(self.shows(self.lot[:n] + (thing,) + self.lot[n:]), False, repr(thing)[:80])

    def test_truths_and_lists_in_it(self):
        for other in same_but_equal(("never", self.lot)):
            self.assertIs(shows_never(self.book, 0, other), False, other)

    def test_heads(self):
        for paper in [("never",), ("never", self.lot, ()), ("Never", self.lot), ("does", self.lot), (self.lot,), self.lot,
                      ["never", self.lot], (None, self.lot), ("never", None), ("never", "x"), (COUNTER, self.lot)]:
            self.assertIs(shows_never(self.book, 0, paper), False, paper)


class DoesPapers(unittest.TestCase):
    def test_other_right_beats_and_beginnings(self):
        self.assertEqual(never(THIRD, 0), ("does", (0,), 0))
        for values in ((0,), (1,)):
            for n in [0, 1, 2, 3, 4, 5, 6, 300, 301, 10 ** 59, 10 ** 59 - 1, 10 ** 59 + 2, MOST]:
                self.assertIs(shows_never(THIRD, 0, ("does", values, n)), n % 3 == 0, n)

    def test_another_beginning_than_the_least(self):
        self.assertEqual(never(LATE, 0), ("does", (3,), 1))
        self.assertTrue(shows_never(LATE, 0, ("does", (3,), 2)))
        for values, n in [((3,), 0), ((3,), 3), ((3,), MOST), ((1,), 0), ((0,), 1), ((0,), MOST)]:
            self.assertIs(shows_never(LATE, 0, ("does", values, n)), False)
        self.assertIs(shows_never(CLIMBER, 0, ("does", (1,), 0)), True)
        self.assertIs(shows_never(CLIMBER, 0, ("does", (2,), 0)), False)

    def test_sixty_and_sixty_one_figures(self):
        for n in (0, 1, 10 ** 59, MOST):
            self.assertIs(shows_never(COUNTER, 0, ("does", (0,), n)), True)
        for n in NO_NUMBERS:
            self.assertIs(shows_never(COUNTER, 0, ("does", (0,), n)), False)

    def test_no_beginnings(self):
        for values in [(3,), (-1,), (True,), (False,), [0], 0, (), (0, 0), ((0,), (0,)), (((0,), (0,)),), None, "0",
                       *[thing for thing in ANY_THINGS if repr(thing) != "(0,)"]]:
            self.assertIs(shows_never(COUNTER, 0, ("does", values, 0)), False, repr(values)[:80])

    def test_heads(self):
        for paper in [("does", (0,)), ("does", (0,), 0, 0), ["does", (0,), 0], ("never", (0,), 0), ("did", (0,), 0),
                      (None, (0,), 0), ("does", 0, (0,))]:
            self.assertIs(shows_never(COUNTER, 0, paper), False, paper)

    def test_of_a_rule_that_never_does(self):
        for n in (0, 1, MOST):
            self.assertIs(shows_never(CLIMBER, 1, ("does", (0,), n)), False)


class AnyPapers(unittest.TestCase):
    def test_any_things(self):
        for paper in no_papers("never", "does"):
            self.assertIs(shows_never(CLIMBER, 1, paper), False, repr(paper)[:80])
            self.assertIs(shows_never(COUNTER, 0, paper), False, repr(paper)[:80])

    def test_what_was_told_put_otherwise(self):
        dice = random.Random(23)
        let_by = refused = 0
        for _ in range(150):
            book = some_book(dice)
            if not 1 <= len(book) <= 3 or len(all_values(book)) > 8:
                continue
            number = dice.randrange(len(book))
            told = never(book, number)
            others = list(twisted(told, come_to(book)))
            for other in dice.sample(others, min(len(others), 150)):
                right = is_paper(book, number, other)
                self.assertIs(shows_never(book, number, other), right, (book.rules, number, other))
                let_by += right
                refused += not right
        self.assertGreater(let_by, 100)
        self.assertGreater(refused, 1000)

    def test_by_name(self):
        self.assertIs(shows_never(paper=("does", (0,), 0), rule=0, book=COUNTER), True)


if __name__ == "__main__":
    unittest.main()
