import itertools
import random
import unittest

from hushrules.books import Book
from hushrules.errors import NoSeen
from hushrules.seen import began, clash, shows_clash
from tests.models import MOST, NO_NUMBERS, all_values, lines, no_papers, same_but_equal, strict, twisted
from tests.samples import ANY_THINGS, COUNTER, rule, some_book, some_runs

EMPTY = Book((2, 2))
# Goes on to the last place, and is quiet there.
CLIMBER = Book((4,), (rule((("below", 0, 3),), (("turn", 0, 1),)),))
# Does at every third beat.
THIRD = Book((2,), (rule((), (("turn", 0, 1),), ((0, 3),)),))
# Three wheels that nothing turns.
STILL = Book((2, 2, 2), (rule((("is", 0, 0), ("is", 0, 1))),))


def stood(n, wheel, place):
    return ("stood", n, wheel, place)


def did(n, number):
    return ("did", n, number)


def rested(n, number):
    return ("rested", n, number)


def all_so(book, row):
    return [values for values, line in lines(book).items() if all(line.saw(sighting) for sighting in row)]


def picked(seen, numbers):
    return [seen[number] for number in numbers]


def model_clash(book, seen):
    for many in range(1, len(seen) + 1):
        for row in itertools.combinations(range(len(seen)), many):
            if not all_so(book, picked(seen, row)):
                fewer = itertools.combinations(range(len(seen)), many - 1)
                return ("clash", row, tuple(all_so(book, picked(seen, numbers))[0] for numbers in fewer))
    return None


def is_paper(book, seen, thing):
    """Looks at a paper slowly, by what the document says of it."""
    if type(thing) is not tuple or len(thing) != 3 or strict(thing[0]) != strict("clash"):
        return False
    rows = [row for many in range(1, len(seen) + 1) for row in itertools.combinations(range(len(seen)), many)]
    if strict(thing[1]) not in map(strict, rows) or all_so(book, picked(seen, thing[1])):
        return False
    fewer = list(itertools.combinations(range(len(seen)), len(thing[1]) - 1))
    if type(thing[2]) is not tuple or len(thing[2]) != len(fewer):
        return False
    return all(strict(values) in map(strict, all_so(book, picked(seen, row))) for values, row in zip(thing[2], fewer))


def some_sighting(dice, book, line=None):
    """A sighting; by the line it is so, where one is handed in."""
    n = dice.choice((0, 1, 2, 3, dice.randrange(9), dice.randrange(60), dice.randrange(10 ** 60), MOST))
    if len(book) == 0 or dice.randrange(2):
        wheel = dice.randrange(len(book.wheels))
        place = dice.randrange(book.wheels[wheel]) if line is None else line.state(n)[0][wheel]
        return stood(n, wheel, place)
    number = dice.randrange(len(book))
    if line is None:
        return (dice.choice(("did", "rested")), n, number)
    return did(n, number) if number in line.done(n) else rested(n, number)


def some_seen(dice, book, most=8):
    line = dice.choice([None, *lines(book).values()])
    seen = [some_sighting(dice, book, line) for _ in range(dice.randint(0, most))]
    if seen and dice.randrange(3) == 0:
        seen[0] = some_sighting(dice, book)
    return tuple(seen)


def some_still_book(dice):
    """One that changes nothing, and by whose beginnings most rules do: so what clashes is often of three and more."""
    wheels = dice.choice([(3,), (4,), (2, 2), (2, 3)])
    spots = [(wheel, dice.randrange(places)) for wheel, places in enumerate(wheels) for _ in range(5)]
    return Book(wheels, tuple(rule((("not", *dice.choice(spots)),)) for _ in range(5)))


class Began(unittest.TestCase):
    def test_nothing_seen(self):
        self.assertEqual(repr(began(COUNTER, ())), repr([(0,), (1,), (2,)]))
        self.assertEqual(began(EMPTY, ()), [(0, 0), (0, 1), (1, 0), (1, 1)])

    def test_stood(self):
        for n in (0, 1, 2, 3, 10 ** 59, MOST):
            for place in range(3):
                self.assertEqual(began(COUNTER, (stood(n, 0, place),)), [((place - n) % 3,)])
        self.assertEqual(began(CLIMBER, (stood(0, 0, 2),)), [(2,)])
        self.assertEqual(began(CLIMBER, (stood(1, 0, 2),)), [(1,)])
        self.assertEqual(began(CLIMBER, (stood(1, 0, 3),)), [(2,), (3,)])
        self.assertEqual(began(CLIMBER, (stood(MOST, 0, 3),)), [(0,), (1,), (2,), (3,)])
        self.assertEqual(began(CLIMBER, (stood(MOST, 0, 2),)), [])
        self.assertEqual(began(EMPTY, (stood(10 ** 59, 1, 0),)), [(0, 0), (1, 0)])

    def test_did_and_rested(self):
        self.assertEqual(began(CLIMBER, (did(0, 0),)), [(0,), (1,), (2,)])
        self.assertEqual(began(CLIMBER, (rested(0, 0),)), [(3,)])
        self.assertEqual(began(CLIMBER, (did(2, 0),)), [(0,)])
        self.assertEqual(began(CLIMBER, (rested(2, 0),)), [(1,), (2,), (3,)])
        self.assertEqual(began(CLIMBER, (did(3, 0),)), [])
        self.assertEqual(began(CLIMBER, (rested(MOST, 0),)), [(0,), (1,), (2,), (3,)])
        for n in (0, 1, 2, 3, 300, 301, 302, 10 ** 59, 10 ** 59 - 1, MOST):
            all_or_none = [(0,), (1,)]
            self.assertEqual(began(THIRD, (did(n, 0),)), all_or_none if n % 3 == 0 else [])
            self.assertEqual(began(THIRD, (rested(n, 0),)), [] if n % 3 == 0 else all_or_none)

    def test_several(self):
        self.assertEqual(began(CLIMBER, (did(0, 0), did(1, 0))), [(0,), (1,)])
        self.assertEqual(began(CLIMBER, (did(0, 0), did(1, 0), rested(2, 0))), [(1,)])
        self.assertEqual(began(CLIMBER, (did(0, 0), stood(0, 0, 3))), [])
        self.assertEqual(began(CLIMBER, (did(0, 0),) * 8), [(0,), (1,), (2,)])
        self.assertEqual(began(STILL, (stood(5, 2, 1), stood(0, 0, 1))), [(1, 0, 1), (1, 1, 1)])

    def test_against_walks(self):
        dice = random.Random(41)
        sizes = {}
        for book, _, _ in some_runs(42, 250):
            for _ in range(4):
                seen = some_seen(dice, book)
                told = began(book, seen)
                self.assertIs(type(told), list)
                self.assertEqual(repr(told), repr(all_so(book, seen)), (book.rules, seen))
                self.assertEqual(repr(began(seen=seen, book=book)), repr(told))
                sizes[min(2, len(told))] = sizes.get(min(2, len(told)), 0) + 1
        self.assertTrue(all(sizes[many] > 50 for many in range(3)), sizes)

    def test_the_list_is_the_askers_own(self):
        seen = (did(0, 0),)
        first = began(CLIMBER, seen)
        first.clear()
        self.assertEqual(began(CLIMBER, seen), [(0,), (1,), (2,)])
        whole = began(CLIMBER, ())
        whole.append(None)
        self.assertEqual(began(CLIMBER, ()), [(0,), (1,), (2,), (3,)])


class Refusals(unittest.TestCase):
    right = [stood(0, 0, 0), stood(MOST, 0, 2), did(0, 0), did(MOST, 0), rested(0, 0), rested(10 ** 59, 0)]
    none = [
        *[stood(thing, 0, 0) for thing in NO_NUMBERS], *[stood(0, thing, 0) for thing in NO_NUMBERS],
        *[stood(0, 0, thing) for thing in NO_NUMBERS], stood(0, 1, 0), stood(0, 0, 3),
        *[did(thing, 0) for thing in NO_NUMBERS], *[did(0, thing) for thing in NO_NUMBERS], did(0, 1),
        *[rested(thing, 0) for thing in NO_NUMBERS], *[rested(0, thing) for thing in NO_NUMBERS], rested(0, 1),
        ("stood", 0, 0), ("stood", 0, 0, 0, 0), ("did", 0), ("did", 0, 0, 0), ("rested", 0), ("rested", 0, 0, 0), ("stood",),
        ("did",), (), ("Did", 0, 0), ("stands", 0, 0, 0), ("does", 0, 0), (None, 0, 0), (0, "did", 0), ("quiet",), ("", 0, 0),
        ["did", 0, 0], ["stood", 0, 0, 0], "did", (("did", 0, 0),), (COUNTER, 0, 0), (COUNTER, 0, 0, 0),
        *ANY_THINGS, *[("did", thing, 0) for thing in ANY_THINGS if type(thing) is not int],
        *[("stood", 0, thing, thing) for thing in ANY_THINGS if type(thing) is not int],
    ]

    def refused(self, book, seen, at):
        for deed in (began, clash, lambda book, seen: shows_clash(book, seen, None)):
            with self.assertRaises(NoSeen, msg=repr(seen)[:80]) as refused:
                deed(book, seen)
            self.assertEqual(repr(refused.exception.at), repr(at))

    def test_none_as_a_whole(self):
        for thing in ANY_THINGS:
            if type(thing) is not tuple:
                self.refused(COUNTER, thing, -1)
        for seen in [[did(0, 0)], [], "", None, 0, {}, (did(0, 0),) * 9, (did(0, 0),) * 30, (None,) * 9, (None,) * 30000]:
            self.refused(COUNTER, seen, -1)

    def test_eight_and_nine(self):
        self.assertEqual(began(COUNTER, (did(0, 0),) * 8), [(0,), (1,), (2,)])
        self.refused(COUNTER, (did(0, 0),) * 9, -1)

    def test_the_number_of_the_first_that_is_none(self):
        for sighting in self.right:
            self.assertIs(type(began(COUNTER, (sighting,))), list)
        for thing in self.none:
            self.refused(COUNTER, (thing,), 0)
            self.refused(COUNTER, (did(0, 0), thing), 1)
        self.refused(COUNTER, (did(0, 0),) * 7 + (did(0, 1),), 7)
        self.refused(COUNTER, (did(0, 0), None, did(0, 1), did(0, 0)), 1)
        self.refused(COUNTER, (rested(0, 1), None), 0)

    def test_of_the_book(self):
        self.refused(EMPTY, (stood(0, 0, 0), did(0, 0)), 1)
        self.refused(EMPTY, (rested(0, 0),), 0)
        self.refused(Book((2, 4)), (stood(0, 1, 3), stood(0, 0, 3)), 1)
        self.assertEqual(began(Book((2, 4)), (stood(0, 1, 3),)), [(0, 3), (1, 3)])

    def test_ahead_of_papers(self):
        with self.assertRaises(NoSeen):
            shows_clash(COUNTER, None, ("clash", (0,), ((0,),)))


class Clash(unittest.TestCase):
    def test_where_nothing_clashes(self):
        self.assertIs(clash(COUNTER, ()), None)
        self.assertIs(clash(COUNTER, (stood(0, 0, 1), stood(1, 0, 2))), None)
        self.assertIs(clash(CLIMBER, (did(0, 0),) * 8), None)

    def test_of_one_number(self):
        self.assertEqual(repr(clash(COUNTER, (rested(0, 0),))), repr(("clash", (0,), ((0,),))))
        self.assertEqual(clash(COUNTER, (did(0, 0), did(1, 0), rested(5, 0), rested(7, 0))), ("clash", (2,), ((0,),)))
        # The first two clash, too, but they are more.
        self.assertEqual(clash(CLIMBER, (stood(0, 0, 0), stood(0, 0, 1), did(3, 0))), ("clash", (2,), ((0,),)))

    def test_of_two_numbers(self):
        seen = (stood(0, 0, 1), did(0, 0), stood(0, 0, 2))
        self.assertEqual(clash(COUNTER, seen), ("clash", (0, 2), ((1,), (0,), (2,))))
        seen = (did(0, 0), stood(0, 0, 2), stood(1, 0, 1), stood(0, 0, 2), stood(1, 0, 0))
        self.assertEqual(clash(COUNTER, seen), ("clash", (1, 2), ((0,), (2,), (0,), (2,), (2,))))

    def test_of_three_numbers(self):
        # Each two are so by some beginning, all three by none.
        book = Book((3,), (rule((("not", 0, 0),)), rule((("not", 0, 1),)), rule((("not", 0, 2),))))
        seen = tuple(did(0, number) for number in range(3))
        self.assertEqual(clash(book, seen), ("clash", (0, 1, 2), ((2,), (1,), (0,))))
        self.assertEqual(began(book, seen), [])
        more = (did(4, 0), *seen)
        self.assertEqual(clash(book, more), ("clash", (0, 2, 3), ((1,), (2,), (1,), (2,), (1,), (0,))))

    def test_of_more_numbers(self):
        # By each beginning just one of the rules rests.
        book = Book((2, 2), tuple(
            rule((("is", 0, one), ("is", 1, other)), (), ((4, 1),)) for one in (0, 1) for other in (0, 1)
        ) + (rule(),))
        four = tuple(rested(0, number) for number in range(4))
        lets = ((1, 1), (1, 0), (0, 1), (0, 0))
        self.assertEqual(clash(book, four), ("clash", (0, 1, 2, 3), lets))
        self.assertTrue(shows_clash(book, four, clash(book, four)))
        self.assertEqual(clash(book, (rested(0, 4), *four))[1], (1, 2, 3, 4))

    def test_alike_sightings(self):
        seen = (stood(0, 0, 1), stood(0, 0, 1), stood(0, 0, 0), stood(0, 0, 0))
        self.assertEqual(clash(COUNTER, seen), ("clash", (0, 2), ((1,), (1,), (0,), (0,))))

    def test_against_walks(self):
        dice = random.Random(43)
        sizes = {}
        books = [book for book, _, _ in some_runs(44, 200)]
        for book in books + [some_still_book(dice) for _ in range(150)]:
            for _ in range(4):
                seen = some_seen(dice, book)
                if dice.randrange(3) == 0 and len(book) == 5:
                    seen = tuple(did(dice.randrange(3), number) for number in dice.sample(range(5), 5))
                told = clash(book, seen)
                self.assertEqual(repr(told), repr(model_clash(book, seen)), (book.rules, seen))
                self.assertEqual(repr(clash(seen=seen, book=book)), repr(told))
                self.assertIs(shows_clash(book, seen, told), told is not None)
                self.assertIs(told is None, began(book, seen) != [])
                many = 0 if told is None else len(told[1])
                sizes[many] = sizes.get(many, 0) + 1
        self.assertTrue(all(sizes.get(many, 0) > 10 for many in range(4)), sizes)


class Papers(unittest.TestCase):
    seen = (stood(0, 0, 0), did(0, 0), stood(0, 0, 3), stood(0, 0, 2), did(1, 0))
    # (0, 2), (0, 3), (1, 2), (2, 3), (2, 4), (3, 4) clash; no one does.
    lets = ((0,), (0,), (3,), (2,), (0,))

    def shows(self, numbers, lets):
        return shows_clash(CLIMBER, self.seen, ("clash", numbers, lets))

    def test_the_told_one(self):
        self.assertEqual(clash(CLIMBER, self.seen), ("clash", (0, 2), self.lets))
        self.assertIs(self.shows((0, 2), self.lets), True)

    def test_any_clash_of_the_fewest(self):
        right = [(0, 2), (0, 3), (1, 2), (2, 3), (2, 4), (3, 4)]
        for numbers in itertools.combinations(range(5), 2):
            self.assertIs(self.shows(numbers, self.lets), numbers in right)

    def test_other_right_beginnings(self):
        self.assertIs(self.shows((0, 2), ((0,), (2,), (3,), (2,), (1,))), True)
        for at in range(5):
            for place in range(4):
                lets = self.lets[:at] + ((place,),) + self.lets[at + 1:]
                right = (place,) in all_so(CLIMBER, [self.seen[at]])
                self.assertIs(self.shows((0, 2), lets), right)
        self.assertIs(self.shows((0, 2), ((0,), (3,), (3,), (2,), (0,))), False)

    def test_of_one_number(self):
        seen = (did(0, 0), did(3, 0))
        for place in range(4):
            self.assertIs(shows_clash(CLIMBER, seen, ("clash", (1,), ((place,),))), True)
            self.assertIs(shows_clash(CLIMBER, seen, ("clash", (0,), ((place,),))), False)
        for lets in [(), ((0,), (0,)), ((),), ((4,),), (None,), [(0,)], (0,), None]:
            self.assertIs(shows_clash(CLIMBER, seen, ("clash", (1,), lets)), False)

    def test_more_numbers_than_need_be(self):
        seen = (did(0, 0), did(3, 0))
        for lets in itertools.product(all_values(CLIMBER), repeat=2):
            self.assertIs(shows_clash(CLIMBER, seen, ("clash", (0, 1), lets)), False)
        seen = (stood(0, 0, 0), stood(0, 0, 1), did(0, 0))
        self.assertIs(shows_clash(CLIMBER, seen, ("clash", (0, 1), ((0,), (1,), (0,)))), True)
        for lets in itertools.product(all_values(CLIMBER), repeat=3):
            self.assertIs(shows_clash(CLIMBER, seen, ("clash", (0, 1, 2), lets)), False)

    def test_the_lets_are_of_all_that_is_seen(self):
        # For those of the clash alone it would be two.
        self.assertIs(self.shows((0, 2), ((0,), (3,))), False)

    def test_too_few_and_too_many(self):
        for many in (0, 1, 4):
            self.assertIs(self.shows((0, 2), self.lets[:many]), False)
        self.assertIs(self.shows((0, 2), self.lets + ((0,),)), False)

    def test_numbers_that_are_none(self):
        for numbers in [(), (2, 0), (0, 0), (0, 0, 2), (0, 5), (-1, 2), (False, 2), [0, 2], (0, "2"), 0, None, "02", (0,), (2,),
                        (0, 1, 2, 3, 4), ((0, 2),), (0, None), (0, COUNTER)]:
            for lets in (self.lets, (), ((0,),), ((0,),) * 10):
                self.assertIs(self.shows(numbers, lets), False, numbers)

    def test_none_is_no_paper(self):
        self.assertIs(shows_clash(COUNTER, (), None), False)
        self.assertIs(shows_clash(COUNTER, (did(0, 0),), None), False)
        self.assertIs(shows_clash(COUNTER, (rested(0, 0),), None), False)

    def test_where_nothing_clashes(self):
        for paper in [("clash", (), ()), ("clash", (), ((0,),)), ("clash", (0,), ((0,),)), ("clash", (), None), ("clash", None, ())]:
            self.assertIs(shows_clash(COUNTER, (), paper), False)
            self.assertIs(shows_clash(COUNTER, (did(0, 0),), paper), False)

    def test_heads(self):
        for paper in [("clash", (0, 2)), ("clash", (0, 2), self.lets, ()), ["clash", (0, 2), self.lets], ("Clash", (0, 2), self.lets),
                      (None, (0, 2), self.lets), ("clash", self.lets, (0, 2)), ((0, 2), self.lets), (COUNTER, (0, 2), self.lets)]:
            self.assertIs(shows_clash(CLIMBER, self.seen, paper), False)

    def test_lets_that_are_no_beginnings(self):
        for values in [(4,), (-1,), (True,), (False,), [0], 0, (), (0, 0), ((0,), (0,)), None, "0", COUNTER, *ANY_THINGS]:
            if strict(values) != "(0,)":
                self.assertIs(self.shows((0, 2), (values,) + self.lets[1:]), False)
                self.assertIs(self.shows((0, 2), self.lets[:4] + (values,)), False)

    def test_truths_and_lists_in_it(self):
        for other in same_but_equal(("clash", (0, 2), self.lets)):
            self.assertIs(shows_clash(CLIMBER, self.seen, other), False, other)

    def test_any_things(self):
        for paper in no_papers("clash"):
            self.assertIs(shows_clash(CLIMBER, self.seen, paper), False, repr(paper)[:80])
            self.assertIs(shows_clash(CLIMBER, (did(0, 0),), paper), False, repr(paper)[:80])

    def test_what_was_told_put_otherwise(self):
        dice = random.Random(45)
        let_by = refused = 0
        while let_by < 100 or refused < 2000:
            book = some_book(dice)
            seen = some_seen(dice, book, 4)
            told = clash(book, seen)
            if told is None:
                continue
            others = list(twisted(told, all_values(book)))
            for other in dice.sample(others, min(len(others), 60)):
                right = is_paper(book, seen, other)
                self.assertIs(shows_clash(book, seen, other), right, (book.rules, seen, other))
                let_by += right
                refused += not right

    def test_any_numbers_with_any_lets(self):
        dice = random.Random(46)
        let_by = refused = 0
        while let_by < 100 or refused < 1000:
            book = some_book(dice)
            seen = some_seen(dice, book, 3)
            if len(all_values(book)) > 4:
                continue
            for many in range(1, len(seen) + 1):
                lets = [dice.choice(all_values(book)) for _ in itertools.combinations(seen, many - 1)]
                paper = ("clash", tuple(sorted(dice.sample(range(len(seen)), many))), tuple(lets))
                right = is_paper(book, seen, paper)
                self.assertIs(shows_clash(book, seen, paper), right, (book.rules, seen, paper))
                let_by += right
                refused += not right

    def test_by_name(self):
        self.assertIs(shows_clash(paper=("clash", (0, 2), self.lets), seen=self.seen, book=CLIMBER), True)


if __name__ == "__main__":
    unittest.main()
