import random
import unittest

from hushrules.books import Book, begun, beginnings, is_rule, is_state
from hushrules.errors import NoBook, NoState
from tests.samples import ANY_THINGS, COUNTER, TURN, rule, some_book

WHEELS = (3, 2)
EMPTY = rule()


def with_test(*test):
    return rule(test=test)


def with_changes(*changes):
    return rule(changes=changes)


def with_hushes(*hushes):
    return rule(hushes=hushes)


def with_wakes(*wakes):
    return rule(wakes=wakes)


RULES = [
    EMPTY,
    with_test(("is", 0, 0)), with_test(("is", 0, 2)), with_test(("is", 1, 1)),
    with_test(("not", 0, 2)), with_test(("not", 1, 0)),
    with_test(("below", 0, 2)), with_test(("below", 0, 0)), with_test(("below", 1, 1)),
    with_test(("hushed", 0)), with_test(("hushed", 4)), with_test(("awake", 0)), with_test(("awake", 4)),
    with_test(("is", 0, 1), ("not", 0, 1), ("below", 1, 1), ("awake", 2)),
    with_test(*[("is", 0, 1)] * 4),
    with_changes(("put", 0, 0)), with_changes(("put", 0, 2)), with_changes(("put", 1, 1)),
    with_changes(("turn", 0, 0)), with_changes(("turn", 0, 2)), with_changes(("turn", 1, 1)),
    with_changes(*[("turn", 0, 1)] * 3), with_changes(("put", 0, 1), ("turn", 1, 1), ("put", 0, 1)),
    with_hushes((0, 1)), with_hushes((4, 3)), with_hushes((1, 2), (3, 1)),
    with_hushes((0, 1), (1, 2), (2, 3), (3, 1), (4, 2)),
    with_wakes(0), with_wakes(4), with_wakes(1, 3), with_wakes(0, 1, 2, 3, 4),
    rule(hushes=((0, 1), (3, 3)), wakes=(1, 2, 4)),
]

NO_RULES = [
    # not four tuples
    (), ((),), ((), (), ()), ((), (), (), (), ()), [(), (), (), ()], [[], [], [], []],
    ([], (), (), ()), ((), [], (), ()), ((), (), [], ()), ((), (), (), []),
    (None, (), (), ()), ((), None, (), ()), ((), (), None, ()), ((), (), (), None),
    ("", "", "", ""), ("is", (), (), ()), ((), (), (), 0), ((), (), (), "0"), "", None, True, 0,
    # conditions
    with_test(*[("is", 0, 1)] * 5),
    with_test(("is", 2, 0)), with_test(("is", -1, 0)), with_test(("is", 0, 3)), with_test(("is", 0, -1)),
    with_test(("is", 1, 2)), with_test(("not", 2, 0)), with_test(("not", 1, 2)),
    with_test(("below", 0, 3)), with_test(("below", 1, 2)), with_test(("below", 2, 0)), with_test(("below", 0, -1)),
    with_test(("hushed", 5)), with_test(("hushed", -1)), with_test(("awake", 5)), with_test(("awake", -1)),
    with_test(("is", True, 0)), with_test(("is", 0, True)), with_test(("is", False, 0)), with_test(("not", 0, False)),
    with_test(("below", 0, True)), with_test(("hushed", True)), with_test(("awake", False)),
    with_test(["is", 0, 1]), with_test(["hushed", 0]), with_test("is"), with_test(()), with_test(("is",)),
    with_test(("is", 0)), with_test(("is", 0, 1, 0)), with_test(("hushed", 0, 0)), with_test(("awake",)),
    with_test(("above", 0, 1)), with_test(("put", 0, 1)), with_test(("turn", 0, 1)), with_test(("Is", 0, 1)),
    with_test((None, 0, 1)), with_test((["is"], 0, 1)), with_test((0, 0, 1)), with_test(("is", "0", 1)),
    with_test(("is", 0, "1")), with_test(("is", 0, None)), with_test(("is", [0], 1)), with_test(("hushed", "0")),
    with_test(("is", 0, 1), ("is", 0, 3)), with_test(("hushed", None)), with_test(("is", 10 ** 79, 0)),
    ([("is", 0, 1)], (), (), ()), (("is", 0, 1), (), (), ()),
    # changes
    with_changes(*[("turn", 0, 1)] * 4),
    with_changes(("put", 2, 0)), with_changes(("put", -1, 0)), with_changes(("put", 0, 3)), with_changes(("put", 0, -1)),
    with_changes(("turn", 2, 0)), with_changes(("turn", 0, 3)), with_changes(("turn", 1, 2)),
    with_changes(("turn", 0, -1)), with_changes(("put", True, 0)), with_changes(("put", 0, True)),
    with_changes(("turn", False, 0)), with_changes(("turn", 0, False)), with_changes(["put", 0, 1]),
    with_changes(("is", 0, 1)), with_changes(("hushed", 0)), with_changes(("awake", 0)), with_changes(("put", 0)),
    with_changes(("put", 0, 1, 0)), with_changes(()), with_changes("put"), with_changes((None, 0, 1)),
    with_changes(("turn", 0, 1), ("turn", 0, 3)), ((), [("put", 0, 1)], (), ()),
    # hushes
    with_hushes((0, 0)), with_hushes((0, 4)), with_hushes((0, -1)), with_hushes((5, 1)), with_hushes((-1, 1)),
    with_hushes((0, True)), with_hushes((True, 1)), with_hushes((False, 1)), with_hushes([0, 1]), with_hushes((0,)),
    with_hushes((0, 1, 1)), with_hushes(()), with_hushes(0), with_hushes("01"), with_hushes((None, 1)),
    with_hushes((0, None)), with_hushes(("0", 1)), with_hushes((0, "1")), with_hushes(([0], 1)),
    with_hushes((1, 1), (0, 1)), with_hushes((1, 1), (1, 2)), with_hushes((1, 1), (1, 1)),
    with_hushes((0, 1), (2, 1), (1, 1)), with_hushes((0, 1), (1, 4)), ((), (), [(0, 1)], ()),
    with_hushes((0, 1), (1, 2), (2, 3), (3, 1), (4, 2), (4, 2)),
    # wakes
    with_wakes(5), with_wakes(-1), with_wakes(True), with_wakes(False), with_wakes(None), with_wakes("0"),
    with_wakes((0,)), with_wakes([0]), with_wakes(1, 0), with_wakes(1, 1), with_wakes(0, 2, 1),
    with_wakes(0, 1, 2, 3, 4, 4), with_wakes(0, 1, 2, 3, 4, 5), ((), (), (), [0]),
    rule(hushes=((1, 1),), wakes=(1,)), rule(hushes=((0, 1), (2, 1)), wakes=(1, 2)), rule(hushes=((0, 3),), wakes=(0, 1)),
]


class Wheels(unittest.TestCase):
    def test_wheels_that_are_some(self):
        for wheels in ((2,), (3,), (4,), (2, 2), (4, 4), (2, 3, 4), (4, 3, 2), (2, 2, 4), (3, 3, 2), (2, 2, 2)):
            book = Book(wheels, (EMPTY,))
            self.assertEqual(repr(book.wheels), repr(wheels))

    def test_wheels_that_are_none(self):
        wrong = [
            (), (1,), (5,), (0,), (-2,), (2, 1), (2, 5), (2, 2, 2, 2), (3, 3, 3), (4, 4, 2), (4, 4, 4), (4, 2, 4),
            [2], [2, 3], (True,), (2, True), (2, None), ("2",), ((2,),), ([2],), "23", 2, (10 ** 79,),
        ]
        for wheels in wrong + ANY_THINGS:
            with self.assertRaises(NoBook, msg=repr(wheels)[:80]) as refused:
                Book(wheels, (EMPTY,))
            self.assertEqual(refused.exception.at, -1)


class Rules(unittest.TestCase):
    def test_rules_that_are_some(self):
        for thing in RULES:
            self.assertIs(is_rule(WHEELS, 5, thing), True, thing)
            book = Book(WHEELS, (EMPTY, EMPTY, EMPTY, EMPTY, thing))
            self.assertEqual(repr(book.rules[4]), repr(thing))

    def test_rules_that_are_none(self):
        for thing in NO_RULES + ANY_THINGS:
            self.assertIs(is_rule(WHEELS, 5, thing), False, repr(thing)[:80])
            with self.assertRaises(NoBook, msg=repr(thing)[:80]) as refused:
                Book(WHEELS, (EMPTY, EMPTY, EMPTY, EMPTY, thing))
            self.assertEqual(refused.exception.at, 4)

    def test_any_thing_within_a_rule(self):
        for thing in ANY_THINGS:
            if type(thing) is int or thing in ("is", ("is", 0, 1)):
                continue
            spots = [with_test(thing), with_test((thing, 0, 1)), with_test(("is", thing, 1)), with_test(("is", 0, thing))]
            spots += [with_test((thing, 0)), with_test(("awake", thing)), with_changes(thing)]
            spots += [with_changes((thing, 0, 1)), with_changes(("put", thing, 1)), with_changes(("put", 0, thing))]
            spots += [with_hushes(thing), with_hushes((thing, 1)), with_hushes((1, thing)), with_hushes((0, 1), thing)]
            spots += [with_wakes(thing), with_wakes(0, thing), with_wakes(thing, 4)]
            for spot in spots:
                self.assertIs(is_rule(WHEELS, 5, spot), False, repr(spot)[:80])

    def test_how_many_rules_there_are(self):
        for many in range(6):
            self.assertIs(is_rule(WHEELS, many, EMPTY), True)
            for number in range(6):
                there = number < many
                self.assertIs(is_rule(WHEELS, many, with_test(("hushed", number))), there)
                self.assertIs(is_rule(WHEELS, many, with_test(("awake", number))), there)
                self.assertIs(is_rule(WHEELS, many, with_hushes((number, 2))), there)
                self.assertIs(is_rule(WHEELS, many, with_wakes(number)), there)

    def test_the_places_of_each_wheel(self):
        wheels = (2, 3, 4)
        for wheel in range(-1, 4):
            for place in range(-1, 6):
                there = 0 <= wheel < 3 and 0 <= place < wheels[wheel]
                for word in ("is", "not", "below"):
                    self.assertIs(is_rule(wheels, 1, with_test((word, wheel, place))), there)
                for word in ("put", "turn"):
                    self.assertIs(is_rule(wheels, 1, with_changes((word, wheel, place))), there)

    def test_by_place_and_by_name(self):
        self.assertIs(is_rule(thing=EMPTY, many=1, wheels=WHEELS), True)
        self.assertIs(is_rule(WHEELS, thing=(), many=1), False)


class Refusals(unittest.TestCase):
    def at(self, *parts, **named):
        with self.assertRaises(NoBook) as refused:
            Book(*parts, **named)
        self.assertEqual(type(refused.exception.at), int)
        return refused.exception.at

    def test_none_five_and_six_rules(self):
        self.assertEqual(Book(WHEELS, ()).rules, ())
        self.assertEqual(Book(WHEELS).rules, ())
        self.assertEqual(Book(WHEELS, (EMPTY,) * 5).rules, (EMPTY,) * 5)
        self.assertEqual(self.at(WHEELS, (EMPTY,) * 6), -1)
        self.assertEqual(self.at(WHEELS, (None,) * 6), -1)

    def test_rules_as_a_whole(self):
        for rules in ([], [EMPTY], None, 0, True, "", "rules", Book(WHEELS), (EMPTY,) * 30000, [EMPTY] * 5):
            self.assertEqual(self.at(WHEELS, rules), -1)

    def test_the_first_rule_that_is_none(self):
        bad = with_test(("is", 0, 3))
        self.assertEqual(self.at(WHEELS, (bad,)), 0)
        self.assertEqual(self.at(WHEELS, (EMPTY, bad)), 1)
        self.assertEqual(self.at(WHEELS, (EMPTY, bad, EMPTY, bad)), 1)
        self.assertEqual(self.at(WHEELS, (EMPTY, EMPTY, EMPTY, None, bad)), 3)
        self.assertEqual(self.at(WHEELS, (EMPTY, EMPTY, EMPTY, EMPTY, bad)), 4)

    def test_a_rule_that_there_is_not(self):
        self.assertEqual(self.at(WHEELS, (EMPTY, with_wakes(2))), 1)
        self.assertEqual(self.at(WHEELS, (with_hushes((1, 1)),)), 0)
        self.assertEqual(self.at(WHEELS, (with_test(("awake", 3)), EMPTY, EMPTY)), 0)
        self.assertEqual(len(Book(WHEELS, (with_wakes(1), EMPTY))), 2)

    def test_the_wheels_are_looked_at_first(self):
        self.assertEqual(self.at((5,), (None,)), -1)
        self.assertEqual(self.at((5,), (EMPTY, None)), -1)
        self.assertEqual(self.at([3, 2], (with_test(("is", 7, 7)),)), -1)

    def test_any_thing_as_rules(self):
        for thing in ANY_THINGS:
            if thing == ():
                continue
            short = isinstance(thing, tuple) and len(thing) <= 5
            self.assertEqual(self.at(WHEELS, thing), 0 if short else -1)

    def test_by_name(self):
        self.assertEqual(Book(rules=(EMPTY,), wheels=(2,)), Book((2,), (EMPTY,)))
        self.assertEqual(self.at(rules=(EMPTY, 0), wheels=(2,)), 1)


class Shown(unittest.TestCase):
    def test_equal(self):
        one = Book((3,), (TURN,))
        self.assertIs(one == COUNTER, True)
        self.assertIs(one != COUNTER, False)
        for other in (Book((4,), (TURN,)), Book((3,)), Book((3,), (TURN, TURN)), Book((3,), (EMPTY,)), Book((3, 2), (TURN,))):
            self.assertIs(one == other, False)
            self.assertIs(other == one, False)
            self.assertIs(one != other, True)

    def test_equal_to_nothing_else(self):
        for thing in (((3,), (TURN,)), [], (), None, 1, True, "Book(1, 1)", str(COUNTER), repr(COUNTER), [COUNTER]):
            self.assertIs(COUNTER == thing, False)
            self.assertIs(thing == COUNTER, False)
            self.assertIs(COUNTER != thing, True)
        self.assertIs(Book((2,)) == 0, False)

    def test_length(self):
        for many in range(6):
            self.assertEqual(len(Book((2, 2), (EMPTY,) * many)), many)

    def test_repr(self):
        self.assertEqual(repr(Book((2,))), "Book(1, 0)")
        self.assertEqual(repr(COUNTER), "Book(1, 1)")
        self.assertEqual(repr(Book((2, 3, 4), (EMPTY,) * 5)), "Book(3, 5)")

    def test_text_without_rules(self):
        self.assertEqual(str(Book((4,))), "wheels 4")
        self.assertEqual(str(Book((2, 3, 4))), "wheels 2 3 4")

    def test_text_of_empty_parts(self):
        self.assertEqual(str(Book((2,), (EMPTY,))), "wheels 2\n- / - / - / -")
        self.assertEqual(str(COUNTER), "wheels 3\n- / turn 0 1 / - / -")

    def test_text_of_all_parts(self):
        first = rule(
            (("is", 0, 1), ("not", 1, 2), ("below", 0, 0), ("hushed", 2)),
            (("turn", 1, 3), ("put", 0, 1), ("turn", 0, 0)), ((0, 1), (2, 3)), (1,),
        )
        second = rule(test=(("awake", 0),), wakes=(0, 1, 2))
        third = rule(changes=(("put", 1, 0),), hushes=((1, 2),))
        self.assertEqual(str(Book((2, 4), (first, second, third))), "\n".join([
            "wheels 2 4",
            "is 0 1, not 1 2, below 0 0, hushed 2 / turn 1 3, put 0 1, turn 0 0 / 0 for 1, 2 for 3 / 1",
            "awake 0 / - / - / 0, 1, 2",
            "- / put 1 0 / 1 for 2 / -",
        ]))

    def test_fields_and_methods_of_its_own(self):
        book = Book((3, 2), (TURN, EMPTY))
        self.assertEqual(repr((book.wheels, book.rules)), repr(((3, 2), (TURN, EMPTY))))
        for name in ("__init__", "__eq__", "__len__", "__repr__", "__str__"):
            self.assertIn(name, vars(Book))


class Beginnings(unittest.TestCase):
    def test_all_in_order(self):
        self.assertEqual(repr(beginnings(Book((3,)))), repr([(0,), (1,), (2,)]))
        self.assertEqual(repr(beginnings(Book((2, 3)))), repr([(0, 0), (0, 1), (0, 2), (1, 0), (1, 1), (1, 2)]))
        told = beginnings(Book((4, 3, 2), (EMPTY,)))
        self.assertEqual(len(told), 24)
        self.assertEqual(told[:4], [(0, 0, 0), (0, 0, 1), (0, 1, 0), (0, 1, 1)])
        self.assertEqual(told[-2:], [(3, 2, 0), (3, 2, 1)])
        self.assertEqual(told, sorted(set(told)))

    def test_the_list_is_the_askers_own(self):
        book = Book((2, 2))
        told = beginnings(book)
        self.assertIs(type(told), list)
        told.reverse()
        told[0] = None
        told.clear()
        self.assertEqual(beginnings(book), [(0, 0), (0, 1), (1, 0), (1, 1)])
        self.assertIsNot(beginnings(book), beginnings(book))

    def test_by_name(self):
        self.assertEqual(beginnings(book=Book((2,))), [(0,), (1,)])


class States(unittest.TestCase):
    book = Book((3, 2), (EMPTY, TURN))

    def test_states_that_are_some(self):
        for hushes in ((0, 0), (0, 2), (2, 0), (1, 1), (2, 2)):
            for values in beginnings(self.book):
                self.assertIs(is_state(self.book, (values, hushes)), True)
        self.assertIs(is_state(Book((2,)), ((1,), ())), True)
        self.assertIs(is_state(Book((2,), (EMPTY,) * 5), ((1,), (0, 1, 2, 1, 0))), True)

    def test_states_that_are_none(self):
        wrong = [
            ((0, 0), (0, 3)), ((0, 0), (3, 0)), ((0, 0), (-1, 0)), ((0, 0), (0,)), ((0, 0), (0, 0, 0)), ((0, 0), ()),
            ((0,), (0, 0)), ((0, 0, 0), (0, 0)), ((), (0, 0)), ((3, 0), (0, 0)), ((0, 2), (0, 0)), ((-1, 0), (0, 0)),
            ((0, -1), (0, 0)), ([0, 0], (0, 0)), ((0, 0), [0, 0]), [(0, 0), (0, 0)], ((0, 0), (0, 0), (0, 0)),
            ((0, 0),), (), ((True, 0), (0, 0)), ((0, False), (0, 0)), ((0, 0), (True, 0)), ((0, 0), (0, False)),
            ((0, 0), (0, None)), (("0", 0), (0, 0)), ((0, 0), ("0", 0)), (0, 0, 0, 0), ((0, 0), 0), (0, (0, 0)),
            ("00", "00"), ((0, 0), "00"), (((0,), 0), (0, 0)), ((0, 0), ((0,), 0)), ((10 ** 79, 0), (0, 0)), None,
        ]
        for thing in wrong + ANY_THINGS:
            self.assertIs(is_state(self.book, thing), False, repr(thing)[:80])

    def test_of_a_book_without_rules(self):
        book = Book((2,))
        self.assertIs(is_state(book, ((0,), ())), True)
        for thing in (((0,), (0,)), ((0,),), ((2,), ()), ((0,), []), ((0,), None)):
            self.assertIs(is_state(book, thing), False)

    def test_begun(self):
        self.assertEqual(repr(begun(self.book, (2, 1))), repr(((2, 1), (0, 0))))
        self.assertEqual(repr(begun(Book((2,)), (1,))), repr(((1,), ())))
        self.assertEqual(begun(Book((2,), (EMPTY,) * 5), (0,)), ((0,), (0, 0, 0, 0, 0)))
        for values in beginnings(self.book):
            self.assertEqual(begun(self.book, values), (values, (0, 0)))
            self.assertIs(is_state(self.book, begun(self.book, values)), True)

    def test_values_that_are_none(self):
        wrong = [
            (0,), (0, 0, 0), (3, 0), (0, 2), (-1, 0), (0, -1), [0, 0], (True, 0), (0, True), ("0", "0"), "00",
            ((0, 0), (0, 0)), ((0,), (0,)), (0, None),
        ]
        for values in wrong + ANY_THINGS:
            with self.assertRaises(NoState, msg=repr(values)[:80]):
                begun(self.book, values)

    def test_by_name(self):
        self.assertEqual(begun(values=(0, 0), book=self.book), ((0, 0), (0, 0)))
        self.assertIs(is_state(thing=((0, 0), (0, 0)), book=self.book), True)


class Many(unittest.TestCase):
    def test_books_made_twice(self):
        for seed in range(60):
            one = some_book(random.Random(seed))
            other = some_book(random.Random(seed))
            self.assertIs(one == other, True)
            self.assertEqual(str(one), str(other))
            self.assertEqual(len(str(one).split("\n")), len(one) + 1)
            self.assertEqual(str(one), str(one))


if __name__ == "__main__":
    unittest.main()
