import itertools
import random
import unittest

from hushrules.books import Book
from hushrules.errors import NoOff, NoWish
from hushrules.offs import fewest, holds, shows_fewest
from tests.models import NO_NUMBERS, all_values, lines, no_papers, same_but_equal, strict, twisted
from tests.samples import ANY_THINGS, COUNTER, TURN, rule, some_book, some_runs

QUIET = ("quiet",)
EMPTY = Book((2, 2))
# Goes on to the last place, and is quiet there.
CLIMBER = Book((4,), (rule((("below", 0, 3),), (("turn", 0, 1),)),))
# Three rules that do always, each of its own wheel.
THREE = Book((2, 2, 2), tuple(rule((), (("turn", wheel, 1),)) for wheel in range(3)))
# The first rule hushes the last one, and the second one wakes it again; so that does, where the second one does or the
# first one doesn't.
GATE = Book((3,), (rule((), (), ((2, 1),)), rule((("not", 0, 0),), (), (), (2,)), TURN))
# The rule 2 does where the rules 3 and 4 are hushed, which the rules 0 and 1 do.
BOTH = Book((2,), (
    rule((), (), ((3, 1),)), rule((), (), ((4, 1),)), rule((("hushed", 3), ("hushed", 4))), rule(), rule(),
))
# From place 0 on it stays; from the others it goes to and fro between 1 and 2, by both rules.
PARTS = Book((3,), (
    rule((("is", 0, 1),), (("put", 0, 2),), ((1, 1),)),
    rule((("is", 0, 2),), (("put", 0, 1),)),
))


def all_wishes(book):
    wishes = [QUIET]
    for number in range(len(book)):
        wishes += [("never", number), ("does", number)]
    for wheel, places in enumerate(book.wheels):
        wishes += [("at", wheel, place) for place in range(places)]
    return wishes


def model_choices(book, wish):
    own = wish[1] if len(wish) == 2 else None
    others = [number for number in range(len(book)) if number != own]
    return [row for many in range(len(others) + 1) for row in itertools.combinations(others, many)]


def breaking(book, wish, off):
    return [values for values, line in lines(book, off).items() if not line.keeps(wish)]


def model_fewest(book, wish):
    breaks = []
    for row in model_choices(book, wish):
        found = breaking(book, wish, row)
        if not found:
            return ("off", row, tuple(breaks))
        breaks.append(found[0])
    return ("none", tuple(breaks))


def is_paper(book, wish, thing):
    """Looks at a paper slowly, by what the document says of it."""
    if type(thing) is not tuple or thing == () or type(thing[0]) is not str:
        return False
    rows = model_choices(book, wish)
    if thing[0] == "off" and len(thing) == 3:
        if strict(thing[1]) not in map(strict, rows) or breaking(book, wish, thing[1]):
            return False
        rows = rows[:rows.index(thing[1])]
    elif thing[0] != "none" or len(thing) != 2:
        return False
    breaks = thing[-1]
    if type(breaks) is not tuple or len(breaks) != len(rows):
        return False
    return all(strict(values) in map(strict, breaking(book, wish, row)) for row, values in zip(rows, breaks))


class Holds(unittest.TestCase):
    def test_quiet(self):
        self.assertIs(holds(COUNTER, QUIET), False)
        self.assertIs(holds(COUNTER, QUIET, off=(0,)), True)
        self.assertIs(holds(CLIMBER, QUIET), True)
        self.assertIs(holds(EMPTY, QUIET), True)
        self.assertIs(holds(THREE, QUIET, off=(0, 2)), False)
        self.assertIs(holds(THREE, QUIET, off=(0, 1, 2)), True)

    def test_quiet_by_one_beginning_only(self):
        self.assertIs(holds(PARTS, QUIET), False)

    def test_a_rule_that_does_nothing_is_not_quiet(self):
        self.assertIs(holds(Book((2,), (rule(),)), QUIET), False)

    def test_never(self):
        self.assertIs(holds(CLIMBER, ("never", 0)), False)
        self.assertIs(holds(CLIMBER, ("never", 0), off=(0,)), True)
        self.assertIs(holds(GATE, ("never", 2)), False)
        self.assertIs(holds(GATE, ("never", 2), off=(1,)), True)
        self.assertIs(holds(GATE, ("never", 2), off=(0, 1)), False)
        self.assertIs(holds(GATE, ("never", 2), off=(0, 2)), True)

    def test_does(self):
        self.assertIs(holds(COUNTER, ("does", 0)), True)
        self.assertIs(holds(COUNTER, ("does", 0), off=(0,)), False)
        # From place 3 on it doesn't.
        self.assertIs(holds(CLIMBER, ("does", 0)), False)
        # From place 0 on it doesn't.
        self.assertIs(holds(GATE, ("does", 2)), False)
        self.assertIs(holds(GATE, ("does", 2), off=(0,)), True)
        # The second rule does at place 2 alone, to which the first one leads.
        two = Book((3,), (rule((("not", 0, 2),), (("turn", 0, 1),), ((1, 1),)), rule((("is", 0, 2),), (("turn", 0, 1),))))
        self.assertIs(holds(two, ("does", 1)), True)
        self.assertIs(holds(two, ("does", 1), off=(0,)), False)

    def test_at(self):
        for place in range(4):
            self.assertIs(holds(CLIMBER, ("at", 0, place)), place == 3)
            self.assertIs(holds(CLIMBER, ("at", 0, place), off=(0,)), False)
            self.assertIs(holds(COUNTER, ("at", 0, place % 3)), False)
        two = Book((2, 3), (rule((), (("put", 1, 2),)), rule((), (("turn", 0, 1),))))
        self.assertIs(holds(two, ("at", 1, 2)), True)
        self.assertIs(holds(two, ("at", 1, 0)), False)
        self.assertIs(holds(two, ("at", 0, 0)), False)
        self.assertIs(holds(two, ("at", 0, 1)), False)

    def test_at_a_place_that_is_left_for_a_moment_again_and_again(self):
        book = Book((2,), (rule((("is", 0, 0),), (("put", 0, 1),), ((1, 3),)), rule((("is", 0, 1),), (("put", 0, 0),))))
        self.assertIs(holds(book, ("at", 0, 1)), False)
        self.assertIs(holds(book, ("at", 0, 0)), False)
        self.assertIs(holds(book, ("at", 0, 1), off=(1,)), True)

    def test_against_walks_with_rules_put_off(self):
        told = {}
        for book, _, off in some_runs(31, 150):
            own = tuple(range(len(book)))
            for rules in {(), off, own, *[(number,) for number in own]}:
                runs = lines(book, rules).values()
                for wish in all_wishes(book):
                    right = all(line.keeps(wish) for line in runs)
                    self.assertIs(holds(book, wish, off=rules), right, (book.rules, wish, rules))
                    told[wish[0], right] = told.get((wish[0], right), 0) + 1
        self.assertEqual(len(told), 8)
        self.assertGreater(min(told.values()), 20)

    def test_by_name(self):
        self.assertIs(holds(off=(0,), wish=QUIET, book=COUNTER), True)
        with self.assertRaises(TypeError):
            holds(COUNTER, QUIET, (0,))

    def test_put_off_in_one_answer_is_not_so_in_the_next(self):
        self.assertEqual([holds(COUNTER, QUIET, off=off) for off in ((), (0,), (), (0,))], [False, True, False, True])


class Refusals(unittest.TestCase):
    none = [
        ("quiet", 0), ("Quiet",), ("quiet", ()), (), "quiet", ["quiet"], (QUIET,), ("",), (None,), (0,), ("at",),
        ("never",), ("never", 1, 0), ("never", 0, 0), ["never", 0], ("does",), ("does", 0, 0), ("did", 0), (("never", 0),),
        ("at", 0), ("at", 0, 0, 0), ("at", 1, 0), ("at", -1, 0), ("at", 0, 3), ("at", 0, -1), ["at", 0, 0],
        ("is", 0, 0), ("put", 0, 0), ("at", (0, 0)), ("quiet", 0, 0), ("at", [0], 0),
        *[(word, thing) for word in ("never", "does") for thing in (1, *NO_NUMBERS)],
        *[("at", thing, 0) for thing in NO_NUMBERS], *[("at", 0, thing) for thing in NO_NUMBERS],
        (COUNTER,), (COUNTER, 0), (COUNTER, 0, 0), *ANY_THINGS,
        *[(word, thing) for word in ("quiet", "never", "at") for thing in ANY_THINGS if type(thing) is not int],
        *[("at", thing, thing) for thing in ANY_THINGS if type(thing) is not int],
    ]

    def test_no_wish(self):
        for wish in self.none:
            for deed in (holds, fewest, lambda book, wish: shows_fewest(book, wish, ("off", (), ()))):
                with self.assertRaises(NoWish, msg=repr(wish)[:80]):
                    deed(COUNTER, wish)

    def test_wishes_within_the_bounds(self):
        for wish in [QUIET, ("never", 0), ("does", 0), ("at", 0, 0), ("at", 0, 2)]:
            self.assertIn(holds(COUNTER, wish), (True, False))

    def test_of_the_book(self):
        for wish in [("never", 0), ("does", 0), ("at", 0, 2), ("at", 2, 0)]:
            with self.assertRaises(NoWish):
                holds(EMPTY, wish)
        two = Book((2, 4))
        with self.assertRaises(NoWish):
            holds(two, ("at", 0, 3))
        self.assertIs(holds(two, ("at", 1, 3)), False)

    def test_no_off(self):
        for off in [(1,), (-1,), (0, 0), [0], (True,), (False,), *ANY_THINGS]:
            if strict(off) not in ("()", "(0,)"):
                with self.assertRaises(NoOff, msg=repr(off)[:80]):
                    holds(COUNTER, QUIET, off=off)
        with self.assertRaises(NoOff):
            holds(THREE, QUIET, off=(1, 0))

    def test_which_refusal_is_made(self):
        with self.assertRaises(NoWish):
            holds(COUNTER, ("quiet", 0), off=None)
        with self.assertRaises(NoWish):
            holds(COUNTER, None, off=(1,))
        with self.assertRaises(NoOff):
            holds(COUNTER, ("never", 0), off=(1,))

    def test_wishes_are_refused_ahead_of_papers(self):
        for paper in (None, ("off", (), ()), 5):
            with self.assertRaises(NoWish):
                shows_fewest(COUNTER, None, paper)


class Fewest(unittest.TestCase):
    def test_none_need_be_put_off(self):
        self.assertEqual(repr(fewest(CLIMBER, QUIET)), repr(("off", (), ())))
        self.assertEqual(fewest(EMPTY, QUIET), ("off", (), ()))
        self.assertEqual(fewest(COUNTER, ("does", 0)), ("off", (), ()))

    def test_choices_in_their_order(self):
        # Every choice but the last one breaks it.
        self.assertEqual(repr(fewest(THREE, QUIET)), repr(("off", (0, 1, 2), ((0, 0, 0),) * 7)))
        # By (), (0,), (1,) and (0, 1) the wheel 2 goes round, from any beginning; else it stays where it begins.
        turned, stays = (0, 0, 0), (0, 0, 1)
        breaks = (turned, turned, turned, stays, turned, stays, stays, stays)
        self.assertEqual(fewest(THREE, ("at", 2, 0)), ("none", breaks))
        self.assertEqual(fewest(THREE, ("never", 1)), ("none", ((0, 0, 0),) * 4))
        # The rules 1 and 2 do always, and the rule 0 only where the rule 1 is hushed.
        last_two = Book((2,), (rule((("hushed", 1),), (), ((1, 2),)), rule(), rule()))
        self.assertEqual(fewest(last_two, QUIET), ("off", (1, 2), ((0,),) * 6))
        self.assertTrue(shows_fewest(last_two, QUIET, ("off", (1, 2), ((1,),) * 6)))

    def test_of_as_many_rules_the_first_in_order(self):
        self.assertEqual(fewest(BOTH, ("never", 2)), ("off", (0,), ((0,),)))
        self.assertTrue(holds(BOTH, ("never", 2), off=(1,)))
        self.assertFalse(holds(BOTH, ("never", 2), off=(3, 4)))

    def test_without_the_wishs_own_rule(self):
        self.assertEqual(fewest(COUNTER, ("never", 0)), ("none", ((0,),)))
        self.assertIs(holds(COUNTER, ("never", 0), off=(0,)), True)
        self.assertEqual(fewest(GATE, ("never", 2)), ("off", (1,), ((1,), (0,))))
        self.assertEqual(fewest(GATE, ("does", 2)), ("off", (0,), ((0,),)))
        self.assertEqual(fewest(CLIMBER, ("does", 0)), ("none", ((3,),)))

    def test_the_least_beginning(self):
        self.assertEqual(fewest(PARTS, ("at", 0, 0)), ("none", ((1,), (1,), (1,), (1,))))
        self.assertEqual(fewest(PARTS, QUIET), ("off", (0,), ((1,),)))
        self.assertEqual(fewest(CLIMBER, ("at", 0, 0)), ("none", ((0,), (1,))))
        self.assertEqual(fewest(CLIMBER, ("at", 0, 3)), ("off", (), ()))
        self.assertEqual(fewest(EMPTY, ("at", 0, 0)), ("none", ((1, 0),)))

    def test_against_walks(self):
        many = {}
        for book, _, _ in some_runs(32, 250):
            if len(all_values(book)) > 12:
                continue
            for wish in all_wishes(book):
                told = fewest(book, wish)
                self.assertEqual(repr(told), repr(model_fewest(book, wish)), (book.rules, wish))
                self.assertIs(shows_fewest(book, wish, told), True)
                self.assertEqual(repr(fewest(book=book, wish=wish)), repr(told))
                size = len(told[1]) if told[0] == "off" else None
                many[wish[0], size] = many.get((wish[0], size), 0) + 1
        for kind in [("quiet", 2), ("never", 1), ("does", 1), ("at", 1), ("at", None), ("does", None), ("never", None)]:
            self.assertGreater(many.get(kind, 0), 3, kind)


class Papers(unittest.TestCase):
    gate = ("off", (1,), ((1,), (0,)))

    def test_other_beginnings_that_break_it(self):
        self.assertIs(shows_fewest(GATE, ("never", 2), self.gate), True)
        for first in range(3):
            for second in range(3):
                right = (first,) in breaking(GATE, ("never", 2), ()) and (second,) in breaking(GATE, ("never", 2), (0,))
                told = shows_fewest(GATE, ("never", 2), ("off", (1,), ((first,), (second,))))
                self.assertIs(told, right)
        self.assertIs(shows_fewest(GATE, ("never", 2), ("off", (1,), ((2,), (2,)))), True)
        self.assertIs(shows_fewest(GATE, ("never", 2), ("off", (1,), ((0,), (2,)))), False)

    def test_too_few_and_too_many_breaks(self):
        for breaks in [(), ((1,),), ((1,), (0,), (0,)), ((1,), (0,), ()), ((1,), (0,), None)]:
            self.assertIs(shows_fewest(GATE, ("never", 2), ("off", (1,), breaks)), False)
        self.assertIs(shows_fewest(CLIMBER, QUIET, ("off", (), ())), True)
        self.assertIs(shows_fewest(CLIMBER, QUIET, ("off", (), ((0,),))), False)
        for many in range(12):
            self.assertIs(shows_fewest(THREE, QUIET, ("off", (0, 1, 2), ((1, 0, 1),) * many)), many == 7)

    def test_by_none(self):
        for many in range(4):
            self.assertIs(shows_fewest(COUNTER, ("never", 0), ("none", ((2,),) * many)), many == 1)
            self.assertIs(shows_fewest(COUNTER, ("at", 0, 2), ("none", ((1,),) * many)), many == 2)
        self.assertIs(shows_fewest(COUNTER, ("at", 0, 2), ("none", ((2,), (1,)))), True)
        # That one stays where it stands, put off.
        self.assertIs(shows_fewest(COUNTER, ("at", 0, 2), ("none", ((2,), (2,)))), False)
        # By some choice it holds.
        self.assertIs(shows_fewest(COUNTER, QUIET, ("none", ((0,), (0,)))), False)
        self.assertIs(shows_fewest(COUNTER, QUIET, ("none", ((0,),))), False)
        self.assertIs(shows_fewest(CLIMBER, QUIET, ("none", ())), False)

    def test_a_choice_by_which_it_does_not_hold(self):
        self.assertIs(shows_fewest(GATE, ("never", 2), ("off", (), ())), False)
        self.assertIs(shows_fewest(GATE, ("never", 2), ("off", (0,), ((1,),))), False)
        for wish in all_wishes(THREE):
            for row in model_choices(THREE, wish):
                rows = model_choices(THREE, wish)
                rows = rows[:rows.index(row)]
                paper = ("off", row, tuple((breaking(THREE, wish, other) + [(0, 0, 0)])[0] for other in rows))
                self.assertIs(shows_fewest(THREE, wish, paper), paper == model_fewest(THREE, wish))

    def test_a_later_choice_by_which_it_holds(self):
        self.assertIs(shows_fewest(BOTH, ("never", 2), ("off", (0,), ((1,),))), True)
        for breaks in itertools.product([(0,), (1,)], repeat=2):
            self.assertIs(shows_fewest(BOTH, ("never", 2), ("off", (1,), breaks)), False)
        self.assertIs(shows_fewest(BOTH, ("never", 2), ("off", (1,), ((0,),))), False)
        never = Book((2,), (rule((("hushed", 0),)), rule()))
        self.assertEqual(fewest(never, ("never", 0)), ("off", (), ()))
        for values in ((0,), (1,)):
            self.assertIs(shows_fewest(never, ("never", 0), ("off", (1,), (values,))), False)
        self.assertIs(shows_fewest(never, ("never", 0), ("off", (1,), ())), False)
        self.assertEqual(fewest(never, QUIET), ("off", (1,), ((0,), (0,))))
        for breaks in itertools.product([(0,), (1,)], repeat=3):
            self.assertIs(shows_fewest(never, QUIET, ("off", (0, 1), breaks)), False)

    def test_rules_that_are_no_choice(self):
        # Out of order, twice, the wish's own, and none of the book's.
        self.assertIs(shows_fewest(THREE, QUIET, ("off", (0, 1, 2), ((0, 0, 0),) * 7)), True)
        for rules in [(2, 1, 0), (0, 2, 1), (0, 1, 1), (0, 1, 2, 2), (0, 1, 2, 3), [0, 1, 2], (False, True, 2), (0, True, 2),
                      None, "012", 7, ((0, 1, 2),), (0, 1, "2")]:
            for many in range(10):
                self.assertIs(shows_fewest(THREE, QUIET, ("off", rules, ((0, 0, 0),) * many)), False)
        for many in range(4):
            self.assertIs(shows_fewest(COUNTER, ("never", 0), ("off", (0,), ((0,),) * many)), False)
            self.assertIs(shows_fewest(GATE, ("never", 2), ("off", (2,), ((1,), (0,), (0,), (0,))[:many])), False)

    def test_breaks_that_are_no_beginnings(self):
        for values in [(3,), (-1,), (True,), (False,), [1], 1, (), (1, 1), ((1,), (0,)), ((1,), (0, 0, 0)), None, "1"]:
            self.assertIs(shows_fewest(GATE, ("never", 2), ("off", (1,), (values, (0,)))), False)
            self.assertIs(shows_fewest(GATE, ("never", 2), ("off", (1,), ((1,), values))), False)
            self.assertIs(shows_fewest(COUNTER, ("never", 0), ("none", (values,))), False)
        for breaks in [[(1,), (0,)], None, "", 0, ((1,), [0]), (((1,), (0,)),)]:
            self.assertIs(shows_fewest(GATE, ("never", 2), ("off", (1,), breaks)), False)

    def test_heads(self):
        breaks = ((1,), (0,))
        for paper in [("off", (1,)), ("off", (1,), breaks, ()), ["off", (1,), breaks], ("none", (1,), breaks), ("on", (1,), breaks),
                      (None, (1,), breaks), (COUNTER, (1,), breaks), ("off", breaks, (1,)), ((1,), breaks), ("off", breaks)]:
            self.assertIs(shows_fewest(GATE, ("never", 2), paper), False)
        for paper in [("none",), ("off", ((0,),)), ["none", ((0,),)], ("none", ((0,),), ()), ("none", [(0,)]), ("none", (0,))]:
            self.assertIs(shows_fewest(COUNTER, ("never", 0), paper), False)

    def test_truths_and_lists_in_it(self):
        for other in same_but_equal(self.gate):
            self.assertIs(shows_fewest(GATE, ("never", 2), other), False, other)
        paper = fewest(COUNTER, ("at", 0, 1))
        self.assertEqual(paper, ("none", ((0,), (0,))))
        for other in same_but_equal(paper):
            self.assertIs(shows_fewest(COUNTER, ("at", 0, 1), other), False, other)

    def test_any_things(self):
        for paper in no_papers("off", "none"):
            self.assertIs(shows_fewest(GATE, ("never", 2), paper), False, repr(paper)[:80])
            self.assertIs(shows_fewest(THREE, QUIET, paper), False, repr(paper)[:80])

    def test_what_was_told_put_otherwise(self):
        dice = random.Random(33)
        let_by = refused = 0
        for _ in range(150):
            book = some_book(dice)
            if not 1 <= len(book) <= 3 or len(all_values(book)) > 8:
                continue
            wish = dice.choice(all_wishes(book))
            others = list(twisted(fewest(book, wish), all_values(book)))
            for other in dice.sample(others, min(len(others), 60)):
                right = is_paper(book, wish, other)
                self.assertIs(shows_fewest(book, wish, other), right, (book.rules, wish, other))
                let_by += right
                refused += not right
        self.assertGreater(let_by, 30)
        self.assertGreater(refused, 1000)

    def test_any_breaks_of_any_choice(self):
        dice = random.Random(34)
        let_by = refused = 0
        while let_by < 100 or refused < 1000:
            book = some_book(dice)
            if not 1 <= len(book) <= 2 or len(all_values(book)) > 4:
                continue
            wish = dice.choice(all_wishes(book))
            for at, row in enumerate([*model_choices(book, wish), None]):
                breaks = tuple(dice.choice(all_values(book)) for _ in range(at))
                paper = ("none", breaks) if row is None else ("off", row, breaks)
                right = is_paper(book, wish, paper)
                self.assertIs(shows_fewest(book, wish, paper), right, (book.rules, wish, paper))
                let_by += right
                refused += not right

    def test_by_name(self):
        self.assertIs(shows_fewest(paper=self.gate, wish=("never", 2), book=GATE), True)


if __name__ == "__main__":
    unittest.main()
