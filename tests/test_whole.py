"""What the document promises over the whole program."""

import inspect
import unittest

from hushrules import alike, beats, books, lots, offs, orders, runs, seen, texts
from hushrules.books import Book
from hushrules.desk import Desk
from hushrules.errors import (
    NoBeat, NoBook, NoOff, NoOrder, NoPlace, NoRule, NoSaying, NoSeen, NoState, NoText, NoWheel, NoWish,
)
from hushrules.watch import Watch
from tests.models import MOST
from tests.samples import rule

BOOK = Book((2, 3), (rule((), (("turn", 0, 1),), ((0, 3),)), rule((("is", 0, 1),), (("turn", 1, 1),), (), (0,))))
STATE = ((1, 2), (0, 1))
TEXT = str(BOOK)
SEEN = (("stood", 2, 1, 0), ("did", 0, 1))

# Each function with right arguments, and of each argument that may be any thing the refusal.
FUNCTIONS = [
    (books.Book, {"wheels": (2, 3), "rules": BOOK.rules}, {"wheels": NoBook, "rules": NoBook}),
    (books.is_rule, {"wheels": (2, 3), "many": 2, "thing": BOOK.rules[0]}, {"thing": False}),
    (books.beginnings, {"book": BOOK}, {}),
    (books.is_state, {"book": BOOK, "thing": STATE}, {"thing": False}),
    (books.begun, {"book": BOOK, "values": (1, 2)}, {"values": NoState}),
    (beats.may_do, {"book": BOOK, "state": STATE, "rule": 0}, {"state": NoState, "rule": NoRule}),
    (beats.beat, {"book": BOOK, "state": STATE, "order": (1, 0), "off": (0,)}, {"state": NoState, "order": NoOrder, "off": NoOff}),
    (beats.ahead, {"book": BOOK, "state": STATE}, {"state": NoState}),
    (runs.state_at, {"book": BOOK, "state": STATE, "beats": 7, "off": ()}, {"state": NoState, "beats": NoBeat, "off": NoOff}),
    (runs.round_of, {"book": BOOK, "state": STATE, "off": (1,)}, {"state": NoState, "off": NoOff}),
    (runs.quiet_from, {"book": BOOK, "state": STATE, "off": (1,)}, {"state": NoState, "off": NoOff}),
    (runs.times, {"book": BOOK, "state": STATE, "rule": 1, "beats": 9, "off": ()},
     {"state": NoState, "rule": NoRule, "beats": NoBeat, "off": NoOff}),
    (runs.nth, {"book": BOOK, "state": STATE, "rule": 1, "many": 9, "off": ()},
     {"state": NoState, "rule": NoRule, "many": NoBeat, "off": NoOff}),
    (lots.come_to, {"book": BOOK, "off": (0,)}, {"off": NoOff}),
    (lots.never, {"book": BOOK, "rule": 1}, {"rule": NoRule}),
    (lots.shows_never, {"book": BOOK, "rule": 1, "paper": lots.never(BOOK, 1)}, {"rule": NoRule, "paper": False}),
    (offs.holds, {"book": BOOK, "wish": ("quiet",), "off": (0,)}, {"wish": NoWish, "off": NoOff}),
    (offs.fewest, {"book": BOOK, "wish": ("quiet",)}, {"wish": NoWish}),
    (offs.shows_fewest, {"book": BOOK, "wish": ("quiet",), "paper": offs.fewest(BOOK, ("quiet",))}, {"wish": NoWish, "paper": False}),
    (seen.began, {"book": BOOK, "seen": SEEN}, {"seen": NoSeen}),
    (seen.clash, {"book": BOOK, "seen": SEEN}, {"seen": NoSeen}),
    (seen.shows_clash, {"book": BOOK, "seen": SEEN, "paper": None}, {"seen": NoSeen, "paper": False}),
    (alike.alike, {"one": BOOK, "other": BOOK}, {}),
    (alike.shows_alike, {"one": BOOK, "other": BOOK, "paper": alike.alike(BOOK, BOOK)}, {"paper": False}),
    (orders.outcomes, {"book": BOOK, "state": STATE}, {"state": NoState}),
    (orders.orders, {"book": BOOK}, {}),
    (orders.shows_orders, {"book": BOOK, "paper": orders.orders(BOOK)}, {"paper": False}),
    (texts.show_book, {"book": BOOK}, {}),
    (texts.read_book, {"text": TEXT}, {"text": NoText}),
    (texts.show_state, {"state": STATE}, {}),
    (texts.read_state, {"book": BOOK, "text": "1 2 | 0 1"}, {"text": NoText}),
    (Watch, {"book": BOOK, "values": (1, 2), "off": (0,)}, {"values": NoState, "off": NoOff}),
    (Desk, {"text": TEXT}, {"text": NoText}),
]
METHODS = [
    ("go", {"beats": 2}, {"beats": NoBeat}), ("hush", {"rule": 1, "beats": 2}, {"rule": NoRule, "beats": NoBeat}),
    ("wake", {"rule": 1}, {"rule": NoRule}), ("turn", {"wheel": 1, "by": 2}, {"wheel": NoWheel, "by": NoBeat}),
    ("put", {"wheel": 1, "place": 2}, {"wheel": NoWheel, "place": NoPlace}), ("put_off", {"rule": 1}, {"rule": NoRule}),
    ("put_on", {"rule": 1}, {"rule": NoRule}),
]
FIELDS = {NoRule: "rule", NoBeat: "beats", NoWheel: "wheel", NoPlace: "place"}


def used_watch():
    watch = Watch(BOOK, (1, 0), off=(0,))
    watch.go(4)
    watch.turn(1)
    return watch


def used_desk():
    desk = Desk(TEXT)
    for row in ("go 3", "off 1", "saw did 0 0"):
        desk.say(row)
    return desk


def objects(*things):
    """Things in which the objects stand, at several places and depths."""
    found = list(things)
    for thing in things:
        found += [(thing,), [thing], (thing, thing), [[thing], (thing,)], ((thing,), (thing,)), ("never", thing), ("is", thing, 0), (0, thing)]
        found += [("free", (thing,)), ("matters", thing, 0, thing), ("matters", (0, 0), thing, (1, 0)), ("clash", (thing,), thing)]
        found += [((0, 0), (thing, thing)), ((thing, thing), (0, 0)), ("at", thing, thing), ("did", thing, 0), (("did", thing, 0),)]
    return found


def shown(thing):
    """A text by which equal things of one kind are alike, also books, watches and desks."""
    if isinstance(thing, Book):
        return f"book {thing.wheels} {thing.rules}"
    if isinstance(thing, Watch):
        return f"watch {thing} {thing.off()} {thing.counts()} {len(thing)}"
    if isinstance(thing, Desk):
        return f"desk {[thing.say(row) for row in ('state', 'beat', 'counts', 'began', 'clash', 'round', 'quiet')]}"
    return repr(thing)


def by_place(function, named):
    """What it tells where all that may be handed in by place is so."""
    told = inspect.signature(function).parameters
    places = [named[name] for name, part in told.items() if part.kind is not part.KEYWORD_ONLY]
    others = {name: named[name] for name, part in told.items() if part.kind is part.KEYWORD_ONLY}
    return function(*places, **others)


class Arguments(unittest.TestCase):
    def test_by_place_and_by_name(self):
        for function, named, _ in FUNCTIONS:
            self.assertEqual(set(inspect.signature(function).parameters), set(named))
            turned = dict(reversed(named.items()))
            self.assertEqual(shown(by_place(function, named)), shown(function(**turned)), function)

    def test_methods_by_place_and_by_name(self):
        for word, named, _ in METHODS:
            one, other = used_watch(), used_watch()
            self.assertEqual(getattr(one, word)(*named.values()), getattr(other, word)(**dict(reversed(named.items()))))
            self.assertEqual(shown(one), shown(other))

    def test_all_functions_stand_here(self):
        here = [function for function, _, _ in FUNCTIONS]
        modules = (alike, beats, books, lots, offs, orders, runs, seen, texts)
        interface = "is_rule beginnings is_state begun may_do beat ahead state_at round_of quiet_from times nth come_to never shows_never"
        interface += " holds fewest shows_fewest began clash shows_clash alike shows_alike outcomes orders shows_orders"
        interface += " show_book read_book show_state read_state"
        for name in interface.split():
            self.assertTrue(any(getattr(module, name, None) in here for module in modules), name)


class AnyThings(unittest.TestCase):
    def refused(self, function, named, name, thing, due):
        handed = {**named, name: thing}
        if due is False:
            self.assertIs(function(**handed), False, (name, repr(thing)[:80]))
            return
        with self.assertRaises(due, msg=(name, repr(thing)[:80])) as refused:
            function(**handed)
        self.assertIs(type(refused.exception), due)
        if due in FIELDS:
            self.assertIs(getattr(refused.exception, FIELDS[due]), thing)

    def test_books_watches_and_desks(self):
        watch, desk = used_watch(), used_desk()
        kept = [shown(watch), shown(desk), shown(BOOK)]
        for thing in objects(BOOK, watch, desk):
            for function, named, dues in FUNCTIONS:
                for name, due in dues.items():
                    self.refused(function, named, name, thing, due)
            for word, named, dues in METHODS:
                for name, due in dues.items():
                    self.refused(getattr(watch, word), named, name, thing, due)
            self.refused(desk.say, {}, "row", thing, NoSaying)
        self.assertEqual([shown(watch), shown(desk), shown(BOOK)], kept)

    def test_the_very_object_handed_to_its_own_deeds(self):
        watch, desk = used_watch(), used_desk()
        kept = [shown(watch), shown(desk)]
        self.refused(watch.go, {}, "beats", watch, NoBeat)
        self.refused(watch.put, {"place": watch}, "wheel", watch, NoWheel)
        self.refused(desk.say, {}, "row", desk, NoSaying)
        self.assertEqual([shown(watch), shown(desk)], kept)

    def test_the_first_refusal_in_the_brackets(self):
        for function, named, dues in FUNCTIONS + [(getattr(used_watch(), word), named, dues) for word, named, dues in METHODS]:
            errors = [(name, due) for name, due in dues.items() if due is not False]
            for n, (name, due) in enumerate(errors):
                for thing in ("is", [None], used_watch()):
                    with self.assertRaises(due):
                        function(**{**named, **{other: thing for other, _ in errors[n:]}})

    def test_a_paper_is_not_looked_at_where_a_refusal_is_due(self):
        for function, named, dues in FUNCTIONS:
            for name, due in dues.items():
                if due is not False and "paper" in named:
                    with self.assertRaises(due):
                        function(**{**named, name: None, "paper": None})


class Lists(unittest.TestCase):
    def test_a_list_is_the_askers_own(self):
        watch = used_watch()
        asked = [(function, named) for function, named, _ in FUNCTIONS] + [(watch.counts, {})]
        lists = 0
        for function, named in asked:
            told = function(**named)
            if type(told) is list:
                lists += 1
                kept = list(told)
                self.assertIsNot(function(**named), told)
                told.reverse()
                told.append(None)
                self.assertEqual(function(**named), kept)
                told.clear()
                self.assertEqual(function(**named), kept)
                self.assertEqual(shown(watch), shown(used_watch()))
        self.assertEqual(lists, 6)

    def test_no_list_within_what_is_told(self):
        def parts(thing):
            return [thing] + [part for inner in thing for part in parts(inner)] if type(thing) in (list, tuple) else [thing]

        for function, named, _ in FUNCTIONS:
            told = function(**named)
            inner = told if type(told) is list else [told]
            self.assertFalse([part for thing in inner for part in parts(thing) if type(part) is list], function)


class Whole(unittest.TestCase):
    def test_nothing_hangs_on_what_was_asked_before(self):
        there = [shown(function(**named)) for function, named, _ in FUNCTIONS]
        back = [shown(function(**named)) for function, named, _ in reversed(FUNCTIONS)]
        self.assertEqual(there, back[::-1])
        watch, desk = used_watch(), used_desk()
        watch.go(MOST)
        desk.say("go 77")
        self.assertEqual([shown(function(**named)) for function, named, _ in FUNCTIONS], there)

    def test_each_told_paper_is_let_by(self):
        for book in (BOOK, Book((2,)), Book((3,), (rule((("below", 0, 2),), (("turn", 0, 1),)), rule((("is", 0, 0), ("is", 0, 1)))))):
            for number in range(len(book)):
                self.assertIs(lots.shows_never(book, number, lots.never(book, number)), True)
            for wish in (("quiet",), ("at", 0, 0)):
                self.assertIs(offs.shows_fewest(book, wish, offs.fewest(book, wish)), True)
            sightings = (("stood", 0, 0, 0), ("stood", 0, 0, 1))
            self.assertIs(seen.shows_clash(book, sightings, seen.clash(book, sightings)), True)
            self.assertIs(alike.shows_alike(book, book, alike.alike(book, book)), True)
            self.assertIs(orders.shows_orders(book, orders.orders(book)), True)

    def test_a_watch_a_desk_and_the_functions_tell_the_same(self):
        watch, desk = Watch(BOOK, (0, 0)), Desk(TEXT)
        for row in ("go 5", "hush 1 2", "go 9", "turn 1 4", "off 0", "go 3", "undo", "go 2"):
            word, *numbers = row.split(" ")
            deed = {"off": "put_off"}.get(word, word)
            getattr(watch, deed)(*map(int, numbers))
            desk.say(row)
            self.assertEqual(desk.say("state"), texts.show_state(watch.state()))
            self.assertEqual(str(watch), f"beat {desk.say('beat')}: {desk.say('state')}")
            far = runs.state_at(BOOK, watch.state(), MOST, off=watch.off())
            self.assertEqual(texts.read_state(BOOK, desk.say(f"at {MOST}")), far)


if __name__ == "__main__":
    unittest.main()
