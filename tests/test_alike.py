import random
import unittest

from hushrules.alike import alike, shows_alike
from hushrules.books import Book
from hushrules.errors import Unlike
from tests.models import MOST, NO_NUMBERS, all_values, awake, is_state, lines, no_papers, same_but_equal, strict, twisted
from tests.samples import ANY_THINGS, COUNTER, TURN, rule, some_book, some_rule, some_runs, walk

# Does as the counter does, by other rules: and one that never does, and one that hushes itself at every other beat.
TWICE = rule((), (("turn", 0, 2), ("turn", 0, 2)))
IDLE = rule((), (), ((1, 2),))
OTHERWISE = Book((3,), (TWICE, IDLE))
# Turns from place 0 and 1 as the counter does, and then stays.
CLIMBER = Book((3,), (rule((("below", 0, 2),), (("turn", 0, 1),)),))
STILL = Book((3,))
# Turns at every third beat only.
HALTS = Book((3,), (rule((("awake", 1),), (("turn", 0, 1),)), rule((), (), ((1, 3),))))
# Comes to place 2 as the counter does, and goes to and fro from there.
FRO = Book((3,), (rule((("is", 0, 2),), (("put", 0, 1),), ((1, 1),)), TURN))


def model_alike(one, other):
    found = set()
    first, second = lines(one), lines(other)
    for values in all_values(one):
        n = 0
        passed = set()
        while True:
            pair = (first[values].state(n), second[values].state(n))
            if pair[0][0] != pair[1][0]:
                return ("parted", values, n)
            if pair in passed:
                break
            passed.add(pair)
            n += 1
        found |= passed
    return ("alike", tuple(sorted(found)))


def is_paper(one, other, thing):
    """Looks at a paper slowly, by what the document says of it."""
    if type(thing) is not tuple or len(thing) not in (2, 3) or type(thing[0]) is not str:
        return False
    if thing[0] == "alike" and len(thing) == 2 and type(thing[1]) is tuple:
        pairs = [strict(pair) for pair in thing[1]]
        for pair in thing[1]:
            if type(pair) is not tuple or len(pair) != 2 or not is_state(one, pair[0]) or not is_state(other, pair[1]):
                return False
            then = (walk(one, pair[0], 1)[1][0], walk(other, pair[1], 1)[1][0])
            if pair[0][0] != pair[1][0] or strict(then) not in pairs:
                return False
        return all(strict((awake(one, values), awake(other, values))) in pairs for values in all_values(one))
    if thing[0] == "parted" and len(thing) == 3:
        values, n = thing[1:]
        if strict(values) not in map(strict, all_values(one)) or type(n) is not int or not 0 <= n <= MOST:
            return False
        return lines(one)[values].state(n)[0] != lines(other)[values].state(n)[0]
    return False


def written_otherwise(dice, book):
    """A book that does alike: tests in another row, turns in two steps, and rules more that change nothing."""
    rules = []
    for test, changes, hushes, wakes in book.rules:
        test = dice.sample(test, len(test)) + list(test[:4 - len(test)])
        changes = list(changes)
        if len(changes) < 3:
            changes.append(("turn", dice.randrange(len(book.wheels)), 0))
        rules.append(rule(tuple(test[:4]), tuple(changes), hushes, wakes))
    if len(rules) < 5:
        number = len(rules)
        rules.append(dice.choice([
            rule((), (), ((number, dice.randint(1, 3)),)), rule(), rule((("below", 0, 0),), (("turn", 0, 1),)),
        ]))
    return Book(book.wheels, tuple(rules))


def changed(dice, book):
    """A book with one rule put otherwise: it mostly parts from the other."""
    rules = list(book.rules)
    if rules:
        rules[dice.randrange(len(rules))] = some_rule(dice, book.wheels, len(rules))
    return Book(book.wheels, tuple(rules))


def some_pairs(seed, many):
    dice = random.Random(seed)
    pairs = []
    for book, _, _ in some_runs(seed, many):
        pairs += [(book, book), (book, written_otherwise(dice, book)), (written_otherwise(dice, book), book)]
        pairs += [(book, changed(dice, book)), (changed(dice, book), written_otherwise(dice, book))]
    return pairs


class Alike(unittest.TestCase):
    def test_to_itself(self):
        pairs = tuple((((n,), (0,)), ((n,), (0,))) for n in range(3))
        self.assertEqual(repr(alike(COUNTER, COUNTER)), repr(("alike", pairs)))
        self.assertEqual(alike(STILL, STILL), ("alike", tuple((((n,), ()), ((n,), ())) for n in range(3))))

    def test_to_one_written_otherwise(self):
        pairs = tuple((((n,), (0,)), ((n,), (0, left))) for n in range(3) for left in (0, 1))
        self.assertEqual(repr(alike(COUNTER, OTHERWISE)), repr(("alike", pairs)))
        pairs = tuple((((n,), (0, left)), ((n,), (0,))) for n in range(3) for left in (0, 1))
        self.assertEqual(alike(OTHERWISE, COUNTER), ("alike", pairs))

    def test_what_rules_do_is_not_asked(self):
        self.assertEqual(alike(STILL, Book((3,), (rule(),)))[0], "alike")

    def test_states_in_which_it_never_is_are_not_asked(self):
        book = Book((3,), (rule((("hushed", 1),), (("turn", 0, 1),)), rule((("below", 0, 0),))))
        self.assertEqual(alike(STILL, book)[0], "alike")

    def test_rounds_of_unlike_lengths(self):
        # One comes round in two beats, the other one in three: pairs of all six come.
        two = Book((2,), (rule((), (), ((0, 2),)),))
        three = Book((2,), (rule((), (), ((0, 3),)),))
        left = [(0, 0), (1, 2), (0, 1), (1, 0), (0, 2), (1, 1)]
        pairs = tuple(sorted((((place,), (one,)), ((place,), (other,))) for place in (0, 1) for one, other in left))
        self.assertEqual(alike(two, three), ("alike", pairs))

    def test_parted_at_beat_one(self):
        self.assertEqual(repr(alike(COUNTER, STILL)), repr(("parted", (0,), 1)))
        self.assertEqual(alike(STILL, COUNTER), ("parted", (0,), 1))

    def test_parted_later(self):
        # From 0 on they part at the third beat, though from 2 on they do sooner.
        self.assertEqual(alike(COUNTER, CLIMBER), ("parted", (0,), 3))
        self.assertEqual(alike(CLIMBER, COUNTER), ("parted", (0,), 3))

    def test_the_least_beginning(self):
        book = Book((3,), (rule((("is", 0, 2),), (("put", 0, 1),)),))
        self.assertEqual(alike(STILL, book), ("parted", (2,), 1))
        two = Book((2, 2), (rule((("is", 0, 1), ("is", 1, 0)), (("put", 1, 1),)),))
        self.assertEqual(alike(two, Book((2, 2))), ("parted", (1, 0), 1))
        # The wheel 1 goes on alike until it comes to place 0 again.
        slow = Book((2, 3), (rule((("is", 0, 1),), (("turn", 1, 1),)), rule((("is", 0, 1), ("is", 1, 0)), (("put", 0, 0),))))
        swift = Book((2, 3), (rule((("is", 0, 1),), (("turn", 1, 1),)),))
        self.assertEqual(alike(slow, swift), ("parted", (1, 0), 3))

    def test_against_walks(self):
        heads = {}
        for one, other in some_pairs(51, 130):
            told = alike(one, other)
            self.assertEqual(repr(told), repr(model_alike(one, other)), (one.wheels, one.rules, other.rules))
            self.assertIs(shows_alike(one, other, told), True)
            self.assertEqual(repr(alike(other=other, one=one)), repr(told))
            kind = (told[0], told[0] == "parted" and told[2] > 1, told[0] == "parted" and told[1] != all_values(one)[0])
            heads[kind] = heads.get(kind, 0) + 1
            if told[0] == "alike":
                self.assertEqual(list(told[1]), sorted(set(told[1])))
        self.assertGreater(heads["alike", False, False], 100)
        for later in (True, False):
            for least in (True, False):
                self.assertGreater(heads.get(("parted", later, least), 0), 1, heads)

    def test_unlike(self):
        paper = alike(COUNTER, COUNTER)
        for wheels in [(2,), (4,), (3, 2), (2, 3), (3, 3)]:
            for one, other in ((COUNTER, Book(wheels)), (Book(wheels), COUNTER)):
                with self.assertRaises(Unlike):
                    alike(one, other)
                for thing in (paper, None, ("parted", (0,), 1)):
                    with self.assertRaises(Unlike):
                        shows_alike(one, other, thing)
        with self.assertRaises(Unlike):
            alike(Book((2, 3)), Book((3, 2)))


class AlikePapers(unittest.TestCase):
    pairs = alike(COUNTER, OTHERWISE)[1]

    def shows(self, pairs):
        return shows_alike(COUNTER, OTHERWISE, ("alike", pairs))

    def test_the_told_one(self):
        self.assertIs(self.shows(self.pairs), True)

    def test_in_another_row_and_twice(self):
        self.assertIs(self.shows(self.pairs[::-1]), True)
        self.assertIs(self.shows(self.pairs * 2), True)
        self.assertIs(self.shows((self.pairs[3],) + self.pairs), True)

    def test_more_closed_pairs(self):
        more = (((0,), (0,)), ((0,), (0, 2)))
        self.assertIs(self.shows(self.pairs + (more,)), True)
        twice = (((0,), (2,)), ((0,), (2, 0)))
        self.assertIs(self.shows(self.pairs + (twice,)), False)
        self.assertIs(self.shows(self.pairs + (twice, (((0,), (1,)), ((0,), (1, 1))))), True)

    def test_more_pairs_that_are_not_closed(self):
        # From it the values part.
        self.assertIs(self.shows(self.pairs + ((((0,), (1,)), ((0,), (0, 1))),)), False)
        self.assertIs(self.shows(self.pairs + ((((0,), (2,)), ((0,), (2, 0))),)), False)

    def test_a_pair_left_out(self):
        for n in range(len(self.pairs)):
            self.assertIs(self.shows(self.pairs[:n] + self.pairs[n + 1:]), False, n)
        self.assertIs(self.shows(()), False)
        # A beginning to which nothing leads.
        pairs = alike(CLIMBER, CLIMBER)[1]
        self.assertIs(shows_alike(CLIMBER, CLIMBER, ("alike", pairs)), True)
        self.assertIs(shows_alike(CLIMBER, CLIMBER, ("alike", pairs[1:])), False)

    def test_values_that_differ(self):
        unlike = (((0,), ()), ((1,), ()))
        pairs = alike(STILL, STILL)[1]
        self.assertIs(shows_alike(STILL, STILL, ("alike", pairs)), True)
        self.assertIs(shows_alike(STILL, STILL, ("alike", pairs + (unlike,))), False)
        parted = tuple((((n,), (0,)), ((m,), (0,))) for n in range(3) for m in range(3))
        self.assertIs(shows_alike(COUNTER, CLIMBER, ("alike", parted)), False)
        self.assertIs(shows_alike(COUNTER, COUNTER, ("alike", parted)), False)

    def test_pairs_of_books_that_part(self):
        pairs = tuple((((n,), (0,)), ((n,), (0,))) for n in range(3))
        self.assertIs(shows_alike(COUNTER, CLIMBER, ("alike", pairs)), False)

    def test_pairs_the_other_way_round(self):
        self.assertIs(self.shows(tuple((second, first) for first, second in self.pairs)), False)
        self.assertIs(shows_alike(OTHERWISE, COUNTER, ("alike", self.pairs)), False)

    def test_no_pairs(self):
        state, other = self.pairs[0]
        for thing in [(state,), (other,), (state, other, ()), [state, other], (other, state), (state, state), (other, other), state,
                      (None, other), (state, None), (list(state), other), (((False,), (0,)), other), (state, ((0,), (0, False))),
                      (((3,), (0,)), ((3,), (0, 0))), (((0,), (3,)), other), (((0,), (-1,)), other), (COUNTER, OTHERWISE), *ANY_THINGS]:
            for n in (0, 3, 6):
                self.assertIs(self.shows(self.pairs[:n] + (thing,) + self.pairs[n:]), False, repr(thing)[:80])

    def test_truths_and_lists_in_it(self):
        for other in same_but_equal(("alike", self.pairs)):
            self.assertIs(shows_alike(COUNTER, OTHERWISE, other), False, other)

    def test_heads(self):
        for paper in [("alike",), ("alike", self.pairs, ()), ("Alike", self.pairs), ("parted", self.pairs), self.pairs, (self.pairs,),
                      ["alike", self.pairs], (None, self.pairs), ("alike", None), ("alike", "x"), (COUNTER, self.pairs)]:
            self.assertIs(shows_alike(COUNTER, OTHERWISE, paper), False)


class PartedPapers(unittest.TestCase):
    def shows(self, values, n):
        return shows_alike(COUNTER, CLIMBER, ("parted", values, n))

    def test_at_any_right_beat(self):
        for place in range(3):
            for n in [0, 1, 2, 3, 4, 5, 6, 300, 301, 302, 10 ** 59, 10 ** 59 + 1, 10 ** 59 + 2, MOST, MOST - 1, MOST - 2]:
                right = (place + n) % 3 != min(2, place + n)
                self.assertIs(self.shows((place,), n), right, (place, n))

    def test_another_beginning_than_the_least(self):
        self.assertEqual(alike(COUNTER, CLIMBER), ("parted", (0,), 3))
        self.assertIs(self.shows((2,), 1), True)
        self.assertIs(self.shows((1,), 2), True)
        self.assertIs(self.shows((1,), 1), False)

    def test_no_beats(self):
        for n in NO_NUMBERS:
            self.assertIs(self.shows((2,), n), False, n)
        self.assertIs(self.shows((2,), 1), True)
        self.assertIs(self.shows((2,), 10 ** 60), False)
        self.assertIs(self.shows((2,), 10 ** 60 + 1), False)

    def test_no_beginnings(self):
        for values in [(3,), (-1,), (True,), (False,), [2], 2, (), (2, 2), ((2,), (0,)), (((2,), (0,)),), None, "2"]:
            for n in (0, 1, 2, 3):
                self.assertIs(self.shows(values, n), False, values)

    def test_books_that_are_alike(self):
        for n in (0, 1, 2, MOST):
            self.assertIs(shows_alike(COUNTER, OTHERWISE, ("parted", (0,), n)), False)

    def test_heads(self):
        for paper in [("parted", (2,)), ("parted", (2,), 1, ()), ["parted", (2,), 1], ("alike", (2,), 1), ("part", (2,), 1), (None, (2,), 1),
                      ("parted", 1, (2,)), ((2,), 1)]:
            self.assertIs(shows_alike(COUNTER, CLIMBER, paper), False)

    def test_hushes_part_them(self):
        self.assertEqual(alike(COUNTER, HALTS), ("parted", (0,), 2))
        self.assertEqual(alike(COUNTER, FRO), ("parted", (0,), 3))
        for n in range(30):
            self.assertIs(shows_alike(COUNTER, HALTS, ("parted", (0,), n)), (n + 2) // 3 % 3 != n % 3, n)


class AnyPapers(unittest.TestCase):
    def test_any_things(self):
        for paper in no_papers("alike", "parted"):
            self.assertIs(shows_alike(COUNTER, OTHERWISE, paper), False, repr(paper)[:80])
            self.assertIs(shows_alike(COUNTER, CLIMBER, paper), False, repr(paper)[:80])

    def test_what_was_told_put_otherwise(self):
        dice = random.Random(53)
        let_by = refused = 0
        while let_by < 100 or refused < 2000:
            one = some_book(dice)
            if len(one) > 2 or len(all_values(one)) > 8:
                continue
            other = dice.choice((written_otherwise, changed))(dice, one)
            told = alike(one, other)
            others = list(twisted(told, told[1] if told[0] == "alike" else ()))
            for paper in dice.sample(others, min(len(others), 60)):
                right = is_paper(one, other, paper)
                self.assertIs(shows_alike(one, other, paper), right, (one.rules, other.rules, paper))
                let_by += right
                refused += not right

    def test_very_many_pairs(self):
        pairs = alike(COUNTER, OTHERWISE)[1]
        self.assertIs(shows_alike(COUNTER, OTHERWISE, ("alike", pairs * 5000)), True)
        self.assertIs(shows_alike(COUNTER, OTHERWISE, ("alike", pairs[1:] * 5000)), False)

    def test_asked_twice(self):
        for one, other in ((COUNTER, OTHERWISE), (COUNTER, CLIMBER), (OTHERWISE, FRO)):
            self.assertEqual(repr(alike(one, other)), repr(alike(one, other)))

    def test_by_name(self):
        self.assertIs(shows_alike(paper=("parted", (2,), 1), other=CLIMBER, one=COUNTER), True)
        self.assertIs(shows_alike(COUNTER, CLIMBER, paper=("parted", (2,), 1)), True)


if __name__ == "__main__":
    unittest.main()
