import random
import unittest

from hushrules.books import Book
from hushrules.desk import Desk
from hushrules.errors import NoBeat, NoPlace, NoRule, NoSaying, NoSeen, NoState, NoText, Nothing, NoWheel, NoWish
from hushrules.lots import never
from hushrules.offs import fewest
from hushrules.orders import orders
from hushrules.runs import nth, quiet_from, round_of, state_at, times
from hushrules.seen import began, clash
from hushrules.texts import show_state
from hushrules.watch import Watch
from tests.models import MOST
from tests.samples import ANY_THINGS, COUNTER, DESK, WATCH, rule, some_book

# The rule 0 turns the first wheel at every third beat; where that is at 1, the rule 1 turns the second, but not from 2.
PAIR = "wheels 2 3\n- / turn 0 1 / 0 for 3 / -\nis 0 1, below 1 2 / turn 1 1 / - / -"
BARE = "wheels 2 2"
ASKED = ["state", "beat", "counts", "round", "quiet", "at 7", "times 0 9", "nth 0 2", "began", "clash", "order", "never 0", "wish quiet"]
ROWS = [
    "begin 0 1", "hush 0 1", "hush 1 2", "wake 0", "turn 1 2", "put 1 2", "off 0", "on 0", "go 1", "undo", "state", "beat", "counts", "at 3",
    "round", "quiet", "times 0 5", "nth 1 1", "never 1", "wish quiet", "wish never 0", "wish does 1", "wish at 1 2", "order", "saw stood 0 1 2",
    "saw did 3 0", "saw rested 1 1", "began", "clash", "forget",
]


def spaced(numbers):
    return " ".join(map(str, numbers))


class Model:
    """A desk by what the functions tell."""

    def __init__(self, book):
        self.book = book
        self.watch = Watch(book, (0,) * len(book.wheels))
        self.seen = ()

    def answer(self, row):
        word, *parts = row.split(" ")
        if word == "wish":
            told = fewest(self.book, (parts[0], *map(int, parts[1:])))
            return "no" if told[0] == "none" else spaced(told[1]) or "-"
        if word == "saw":
            seen = self.seen + ((parts[0], *map(int, parts[1:])),)
            began(self.book, seen)
            self.seen = seen
            return "ok"
        numbers = list(map(int, parts))
        return self.deed(word, numbers) or self.asked(word, numbers) or self.whole(word, numbers)

    def deed(self, word, numbers):
        if word == "begin":
            self.watch = Watch(self.book, tuple(numbers))
            return "ok"
        if word == "go":
            return spaced(self.watch.go(numbers[0])) or "-"
        names = {"hush": "hush", "wake": "wake", "turn": "turn", "put": "put", "off": "put_off", "on": "put_on", "undo": "undo"}
        if word in names:
            getattr(self.watch, names[word])(*numbers)
            return "ok"

    def asked(self, word, numbers):
        watch = self.watch
        here, off = (self.book, watch.state()), {"off": watch.off()}
        if word == "state":
            return show_state(watch.state())
        if word == "beat":
            return str(watch.now())
        if word == "counts":
            return spaced(watch.counts()) or "-"
        if word == "at":
            return show_state(state_at(*here, numbers[0], **off))
        if word == "round":
            return spaced(round_of(*here, **off))
        if word == "quiet":
            told = quiet_from(*here, **off)
            return "no" if told is None else str(told)
        if word == "times":
            return str(times(*here, *numbers, **off))
        if word == "nth":
            told = nth(*here, *numbers, **off)
            return "no" if told is None else str(told)

    def whole(self, word, numbers):
        if word in ("never", "order"):
            told = never(self.book, numbers[0]) if word == "never" else orders(self.book)
            return told[0] if told[0] in ("never", "free") else f"{spaced(told[1])} at {told[2]}"
        if word == "forget":
            self.seen = ()
            return "ok"
        if word == "began":
            return ", ".join(map(spaced, began(self.book, self.seen))) or "no"
        told = clash(self.book, self.seen)
        return "no" if told is None else spaced(told[1])


def some_row(dice, book):
    """A row; now and then of a rule, wheel, place or number that there isn't."""
    number = dice.randrange(len(book) + 1) if dice.randrange(8) == 0 or not len(book) else dice.randrange(len(book))
    wheel = dice.randrange(len(book.wheels) + (dice.randrange(12) == 0))
    place = dice.randrange(book.wheels[wheel]) if wheel < len(book.wheels) else 0
    place += dice.choice([0] * 12 + [3])
    far = dice.choice([0, 1, 2, 3, 5, 12, dice.randrange(10 ** 60)])
    values = " ".join(str(dice.randrange(places)) for places in book.wheels)
    return dice.choice([
        f"begin {values}", f"hush {number} {dice.randint(1, 3)}", f"wake {number}", f"turn {wheel} {far}", f"put {wheel} {place}", f"off {number}",
        f"on {number}", "undo", f"go {far}", f"go {far}", f"go {dice.randrange(9)}", "state", "beat", "counts", f"at {far}", "round", "quiet",
        f"times {number} {far}", f"nth {number} {far}", f"never {number}", "wish quiet", f"wish never {number}", f"wish does {number}",
        f"wish at {wheel} {place}", "order", f"saw stood {far} {wheel} {place}", f"saw did {far} {number}", f"saw rested {far} {number}",
        "forget", "began", "clash",
    ])


def answered(tell, row):
    """The answer, or the refusal with its fields."""
    try:
        told = tell(row)
    except (ValueError, LookupError, OverflowError, RuntimeError) as refused:
        return (type(refused).__name__, repr(vars(refused)))
    return (type(told).__name__, told)


def rows_near(row):
    """Rows with a word left out, twice, put otherwise, or with blanks too many, or other numbers in it."""
    words = row.split(" ")
    for n, word in enumerate(words):
        yield " ".join(words[:n] + words[n + 1:])
        yield " ".join(words[:n] + [word] + words[n:])
        yield " ".join(words[:n] + [""] + words[n:])
        for other in (word.upper(), word.title(), word + "s", word[:-1], "x", "", "-", word + "\n", "\n" + word, "\t" + word, "None"):
            if other != word:
                yield " ".join(words[:n] + [other] + words[n + 1:])
        if word.isdigit():
            for other in ("0" + word, "00", "+" + word, "-" + word, word + ".0", "1" + "0" * 60, "9" * 61, "1_0", "1e3", "0x1", "one", "N"):
                yield " ".join(words[:n] + [other] + words[n + 1:])
    yield from [row + " ", " " + row, row + "\n", "\n" + row, row + " 0", row + " x", "say " + row, row + ",", row + "  ", "\t" + row, row + "\nstate"]
    yield from [row.replace(" ", "  "), row.replace(" ", "_"), row.upper()]


def is_row(row):
    """Whether it is one of the rows, for a book with two wheels, looked at word by word."""
    words = row.split(" ")
    kinds = []
    for word in words:
        figures = word != "" and set(word) <= set("0123456789")
        right = figures and len(word) <= 60 and (word == "0" or word[0] != "0")
        kinds.append("#" if right else word if word != "#" else "?")
    return " ".join(kinds) in (
        "begin # #", "hush # #", "wake #", "turn # #", "put # #", "off #", "on #", "undo", "go #", "state", "beat", "counts", "at #", "round", "quiet",
        "times # #", "nth # #", "never #", "wish quiet", "wish never #", "wish does #", "wish at # #", "order", "saw stood # # #", "saw did # #",
        "saw rested # #", "forget", "began", "clash",
    )


class Rows(unittest.TestCase):
    def setUp(self):
        self.desk = Desk(PAIR)

    def say(self, *rows):
        return [self.desk.say(row) for row in rows]

    def test_as_it_is_made(self):
        self.assertEqual(self.say("state", "beat", "counts", "began", "clash"), [
            "0 0 | 0 0", "0", "0 0", "0 0, 0 1, 0 2, 1 0, 1 1, 1 2", "no",
        ])
        with self.assertRaises(Nothing):
            self.desk.say("undo")

    def test_go_and_what_is_told_of_the_watch(self):
        self.assertEqual(self.say("go 1", "state", "beat", "counts"), ["1 1", "1 1 | 2 0", "1", "1 1"])
        self.assertEqual(self.say("go 0", "go 2", "state", "beat", "counts"), ["0 0", "0 1", "1 2 | 0 0", "3", "1 2"])
        self.assertEqual(self.say(f"go {MOST}", "beat"), [f"{MOST // 3} 0", str(MOST + 3)])
        self.assertEqual(self.say("counts"), [f"{MOST // 3 + 1} 2"])

    def test_deeds(self):
        self.assertEqual(self.say("hush 0 2", "state"), ["ok", "0 0 | 2 0"])
        self.assertEqual(self.say("hush 0 1", "hush 1 1", "state"), ["ok", "ok", "0 0 | 2 1"])
        self.assertEqual(self.say("wake 0", "wake 0", "state"), ["ok", "ok", "0 0 | 0 1"])
        self.assertEqual(self.say("turn 1 5", "state"), ["ok", "0 2 | 0 1"])
        self.assertEqual(self.say(f"turn 0 {MOST}", "state"), ["ok", "1 2 | 0 1"])
        self.assertEqual(self.say("put 1 1", "put 0 0", "state"), ["ok", "ok", "0 1 | 0 1"])
        self.assertEqual(self.say("off 0", "off 0", "go 3", "on 0", "on 0", "go 1"), ["ok", "ok", "0 0", "ok", "ok", "1 1"])
        self.assertEqual(self.say("beat", "counts"), ["4", "1 1"])

    def test_undo(self):
        self.say("go 4", "off 1", "turn 1 0", "hush 0 2")
        self.assertEqual(self.say("undo", "undo", "undo", "state", "beat"), ["ok", "ok", "ok", self.say("state")[0], "4"])
        self.assertEqual(self.say("undo", "state", "beat", "counts"), ["ok", "0 0 | 0 0", "0", "0 0"])
        with self.assertRaises(Nothing):
            self.desk.say("undo")

    def test_from_here(self):
        self.say("go 1")
        self.assertEqual(self.say("at 0", "at 1", "at 2", "at 3"), ["1 1 | 2 0", "1 2 | 1 0", "1 2 | 0 0", "0 2 | 2 0"])
        self.assertEqual(self.say("round", "quiet", "times 1 9", "nth 0 1", "nth 0 2", "nth 1 1", "nth 1 2"), ["1 6", "no", "1", "2", "5", "0", "no"])
        self.assertEqual(self.say(f"times 0 {MOST}"), [str(MOST // 3)])
        self.assertEqual(self.say(f"nth 0 {MOST}"), [str(3 * MOST - 1)])
        self.assertEqual(self.say("beat", "state"), ["1", "1 1 | 2 0"])

    def test_what_is_put_off_is_so_from_here(self):
        self.say("put 0 1", "off 0")
        self.assertEqual(self.say("quiet", "round", f"at {MOST}", "times 0 9", "times 1 9", "nth 0 1", "nth 1 2"), [
            "2", "2 1", "1 2 | 0 0", "0", "2", "no", "1",
        ])

    def test_of_the_book(self):
        rows = ["never 0", "never 1", "wish quiet", "wish never 0", "wish never 1", "wish does 0", "wish at 1 2", "wish at 0 0", "order"]
        answers = ["0 0 at 0", "0 0 at 0", "0", "no", "no", "-", "-", "no", "0 0 at 0"]
        self.assertEqual(self.say(*rows), answers)
        # Whatever the watch does.
        self.say("put 1 2", "off 0", "go 50", "hush 0 2", "saw did 0 1")
        self.assertEqual(self.say(*rows), answers)

    def test_never_and_free(self):
        desk = Desk("wheels 3\nbelow 0 0 / turn 0 1 / - / -\nis 0 2 / - / 1 for 2 / -")
        self.assertEqual([desk.say(row) for row in ("never 0", "never 1", "order")], ["never", "2 at 0", "free"])

    def test_order_that_matters_late(self):
        desk = Desk("\n".join([
            "wheels 3", "is 0 1 / - / 0 for 3, 1 for 2, 2 for 2 / -", "hushed 0 / put 0 0 / - / -", "hushed 0 / put 0 2 / - / -",
        ]))
        self.assertEqual(desk.say("order"), "1 at 2")

    def test_seen(self):
        self.assertEqual(self.say("saw stood 1 1 1", "began"), ["ok", "0 0, 1 1"])
        self.assertEqual(self.say("saw rested 0 1", "began", "clash"), ["ok", "1 1", "no"])
        self.assertEqual(self.say("saw did 2 0", "began", "clash"), ["ok", "no", "2"])
        self.assertEqual(self.say("forget", "began", "clash"), ["ok", "0 0, 0 1, 0 2, 1 0, 1 1, 1 2", "no"])
        self.assertEqual(self.say("saw stood 0 0 0", "saw stood 0 0 1", "clash"), ["ok", "ok", "0 1"])
        self.assertEqual(self.say("forget", f"saw did {MOST} 0", "clash", "began"), ["ok", "ok", "no", "0 0, 0 1, 0 2, 1 0, 1 1, 1 2"])

    def test_seen_has_nothing_to_do_with_the_watch(self):
        self.say("saw stood 0 0 1", "off 1", "go 4", "put 1 2")
        self.assertEqual(self.say("began"), ["1 0, 1 1, 1 2"])
        self.say("undo", "undo", "undo")
        self.assertEqual(self.say("began"), ["1 0, 1 1, 1 2"])
        with self.assertRaises(Nothing):
            self.desk.say("undo")

    def test_begin(self):
        self.say("off 0", "off 1", "go 3", "saw stood 0 1 2")
        self.assertEqual(self.say("begin 1 2", "state", "beat", "counts", "began"), ["ok", "1 2 | 0 0", "0", "0 0", "0 2, 1 2"])
        # What was put off is put on again, and nothing is left to take back.
        self.assertEqual(self.say("go 1", "undo"), ["1 0", "ok"])
        with self.assertRaises(Nothing):
            self.desk.say("undo")
        self.assertEqual(self.say("begin 0 0", "state"), ["ok", "0 0 | 0 0"])

    def test_begin_with_values_that_there_are_not(self):
        self.say("go 3", "off 1")
        for row in ("begin 2 0", "begin 0 3", f"begin {MOST} 0", "begin 9 9"):
            with self.assertRaises(NoState):
                self.desk.say(row)
        for row in ("begin", "begin 0", "begin 0 0 0", "begin 0 0 0 0", "begin 7", "begin 0 9 0", "begin 0 -1"):
            with self.assertRaises(NoSaying):
                self.desk.say(row)
        self.assertEqual(self.say("beat", "undo", "undo", "beat"), ["3", "ok", "ok", "0"])

    def test_begin_with_one_and_three_wheels(self):
        one, three = Desk("wheels 4"), Desk("wheels 2 3 4")
        self.assertEqual([one.say("begin 3"), one.say("state")], ["ok", "3 | -"])
        self.assertEqual([three.say("begin 1 2 3"), three.say("state")], ["ok", "1 2 3 | -"])
        for desk, row in ((one, "begin 0 0"), (one, "begin 0 0 0"), (three, "begin 0"), (three, "begin 0 0"), (three, "begin 0 0 0 0")):
            with self.assertRaises(NoSaying):
                desk.say(row)

    def test_without_rules(self):
        desk = Desk(BARE)
        rows = ["go 5", "counts", "state", "beat", "round", "quiet", "wish quiet", "wish at 0 0", "order", "at 9", "turn 0 1", "state", "began"]
        self.assertEqual([desk.say(row) for row in rows], [
            "-", "-", "0 0 | -", "5", "0 1", "0", "-", "no", "free", "0 0 | -", "ok", "1 0 | -", "0 0, 0 1, 1 0, 1 1",
        ])
        for row in ("hush 0 1", "wake 0", "off 0", "on 0", "never 0", "times 0 1", "nth 0 1"):
            with self.assertRaises(NoRule):
                desk.say(row)

    def test_each_row_is_some(self):
        self.desk.say("go 1")
        for row in ROWS:
            self.assertTrue(is_row(row), row)
            self.assertIs(type(self.desk.say(row)), str, row)

    def test_by_name(self):
        desk = Desk(text=PAIR)
        self.assertEqual(desk.say(row="state"), "0 0 | 0 0")


class AgainstTheFunctions(unittest.TestCase):
    def test_many_rows(self):
        dice = random.Random(91)
        kinds = {}
        for _ in range(50):
            book = some_book(dice)
            desk, model = Desk(str(book)), Model(book)
            for _ in range(50):
                row = some_row(dice, book)
                told = answered(desk.say, row)
                self.assertEqual(told, answered(model.answer, row), (str(book), row))
                kinds[told[0]] = kinds.get(told[0], 0) + 1
        for kind in ("str", "NoRule", "NoWheel", "NoPlace", "NoBeat", "NoWish", "NoSeen", "Nothing"):
            self.assertGreater(kinds.get(kind, 0), 3, kinds)


class Refusals(unittest.TestCase):
    def setUp(self):
        self.desk, self.twin = Desk(PAIR), Desk(PAIR)
        for row in ("put 0 1", "go 4", "hush 1 2", "off 0", "saw stood 0 1 1", "saw did 2 0"):
            self.desk.say(row)
            self.twin.say(row)

    def tearDown(self):
        """What was refused has changed nothing, also of what can be taken back."""
        rows = ["state", "beat", "counts", "at 3", "round", "quiet", "times 1 5", "nth 1 1", "began", "clash"]
        for _ in range(5):
            self.assertEqual([answered(self.desk.say, row) for row in rows], [answered(self.twin.say, row) for row in rows])
            self.assertEqual(answered(self.desk.say, "undo"), answered(self.twin.say, "undo"))
        self.assertEqual(answered(self.desk.say, "undo")[0], "Nothing")

    def refused(self, row, error, **fields):
        with self.assertRaises(error, msg=row) as refused:
            self.desk.say(row)
        self.assertIs(type(refused.exception), error)
        self.assertEqual(repr(vars(refused.exception)), repr(fields))

    def test_no_text(self):
        for thing in ANY_THINGS:
            self.refused(thing, NoSaying)
        for thing in (None, 0, True, [], ["state"], ("state",), ["go", 1], ("go", 1), b"state", WATCH, DESK, COUNTER, [WATCH]):
            self.refused(thing, NoSaying)

    def test_rows_that_are_none(self):
        for row in ["", " ", "  ", "\n", "hello", "go", "go 1 1", "go x", "go -1", "go +1", "go 01", "go 00", "go 1 ", " go 1", "go  1", "go 1\n", "Go 1", "GO 1",
                    "go 1.", "go 1 beats", "go #", "go N", "at", "at 1 2", "hush 0", "hush 0 1 2", "hush", "wake", "turn 0", "turn", "put 0", "put 0 0 0",
                    "off", "off 0 1", "on", "undo 1", "state 0", "beat 0", "counts 0", "round 0", "quiet 0", "times 0", "times", "nth 0", "nth",
                    "never", "never 0 0", "wish", "wish 0", "wish quiet 0", "wish never", "wish does", "wish at 0", "wish at", "wish at 0 0 0", "wish wish",
                    "wish  quiet", "quiet wish", "order 0", "saw", "saw stood", "saw stood 0 0", "saw stood 0 0 0 0", "saw did 0", "saw rested 0",
                    "saw 0", "saw did did 0 0", "forget 0", "began 0", "clash 0", "0", "0 go", "1 2", "tried", "now", "put_off 0", "put off 0", "len",
                    "wish 0 quiet", "saw 0 did 0", "go 1 state", "ok", "no", "-"]:
            self.refused(row, NoSaying)

    def test_sixty_and_sixty_one_figures(self):
        for row in ["go {}", "at {}", "turn 0 {}", "times 0 {}", "nth 0 {}", "saw did {} 0", "hush {} 1", "hush 0 {}", "wake {}", "put {} 0", "put 0 {}",
                    "off {}", "on {}", "never {}", "wish never {}", "wish at 0 {}", "begin {} 0", "saw stood 0 0 {}", "saw rested {} 0"]:
            self.refused(row.format(10 ** 60), NoSaying)
            self.refused(row.format("9" * 61), NoSaying)
            self.refused(row.format("0" * 60), NoSaying)
            self.refused(row.format("1" * 1900), NoSaying)
        for row in (f"at {MOST}", f"times 0 {MOST}", f"nth 0 {MOST}"):
            self.assertIs(type(self.desk.say(row)), str)
        self.refused(f"wake {MOST}", NoRule, rule=MOST)
        self.refused(f"put 1 {MOST}", NoPlace, place=MOST)

    def test_rows_near_to_right_ones(self):
        seen = 0
        for row in ROWS:
            for other in rows_near(row):
                if not is_row(other):
                    self.refused(other, NoSaying)
                    seen += 1
        self.assertGreater(seen, 1500)

    def test_as_the_functions_refuse(self):
        self.refused("hush 2 1", NoRule, rule=2)
        self.refused("hush 2 9", NoRule, rule=2)
        self.refused("hush 0 0", NoBeat, beats=0)
        self.refused("hush 0 3", NoBeat, beats=3)
        self.refused("wake 2", NoRule, rule=2)
        self.refused("turn 2 1", NoWheel, wheel=2)
        self.refused("put 2 9", NoWheel, wheel=2)
        self.refused("put 0 2", NoPlace, place=2)
        self.refused("put 1 3", NoPlace, place=3)
        self.refused("off 5", NoRule, rule=5)
        self.refused("on 5", NoRule, rule=5)
        self.refused("times 2 1", NoRule, rule=2)
        self.refused("nth 2 0", NoRule, rule=2)
        self.refused("nth 0 0", NoBeat, beats=0)
        self.refused("never 2", NoRule, rule=2)
        self.refused("wish never 2", NoWish)
        self.refused("wish does 9", NoWish)
        self.refused("wish at 2 0", NoWish)
        self.refused("wish at 0 2", NoWish)
        self.refused("begin 2 0", NoState)
        self.refused("saw stood 0 2 0", NoSeen, at=2)
        self.refused("saw stood 0 0 2", NoSeen, at=2)
        self.refused("saw did 0 2", NoSeen, at=2)
        self.refused("saw rested 0 7", NoSeen, at=2)

    def test_a_ninth_sighting(self):
        for n in range(6):
            self.assertEqual(self.desk.say("saw rested 0 1"), "ok")
            self.twin.say("saw rested 0 1")
        self.refused("saw rested 0 1", NoSeen, at=-1)
        self.refused("saw stood 0 9 9", NoSeen, at=-1)
        self.refused("saw did 0 9", NoSeen, at=-1)
        self.refused("saw stood 0 9", NoSaying)
        self.assertEqual(self.desk.say("clash"), self.twin.say("clash"))

    def test_the_eighth_that_is_none(self):
        for n in range(5):
            self.desk.say("saw rested 0 1")
            self.twin.say("saw rested 0 1")
        self.refused("saw did 0 2", NoSeen, at=7)
        self.assertEqual(self.desk.say("saw did 0 1"), "ok")
        self.twin.say("saw did 0 1")
        self.refused("saw did 0 1", NoSeen, at=-1)


class Made(unittest.TestCase):
    def test_no_text(self):
        for text, at in [("", 1), ("wheels", 1), ("wheels 2\n", 2), ("wheels 2\nx", 2), ("wheels 2\n- / - / - / -\n- / - / - / 2", 3), (None, 0), (0, 0),
                         ("\n" * 6, 0), (COUNTER, 0), (WATCH, 0), (DESK, 0), (["wheels 2"], 0), (PAIR + "\n", 4), (" " + PAIR, 1)]:
            with self.assertRaises(NoText) as refused:
                Desk(text)
            self.assertEqual(refused.exception.at, at)
        for thing in ANY_THINGS:
            with self.assertRaises(NoText) as refused:
                Desk(thing)
            self.assertEqual(refused.exception.at, 1 if type(thing) is str else 0)

    def test_two_desks(self):
        one, other = Desk(PAIR), Desk(PAIR)
        kept = [other.say(row) for row in ASKED]
        for row in ("go 3", "off 1", "saw stood 0 0 1", "begin 1 1", "hush 0 1", "saw did 0 0"):
            one.say(row)
        self.assertEqual([other.say(row) for row in ASKED], kept)
        other.say("saw did 1 1")
        other.say("forget")
        self.assertEqual(one.say("began"), "1 0, 1 1, 1 2")

    def test_books_of_all_sizes(self):
        dice = random.Random(92)
        for _ in range(40):
            book = some_book(dice)
            desk = Desk(str(book))
            self.assertEqual(desk.say("state"), show_state(((0,) * len(book.wheels), (0,) * len(book))))
        self.assertEqual(Desk(str(Book((2,), (rule(),) * 5))).say("go 2"), "2 2 2 2 2")

    def test_asking_changes_nothing(self):
        desk = Desk(PAIR)
        desk.say("go 2")
        first = [desk.say(row) for row in ASKED]
        self.assertEqual([desk.say(row) for row in ASKED], first)
        self.assertEqual(desk.say("undo"), "ok")
        with self.assertRaises(Nothing):
            desk.say("undo")


if __name__ == "__main__":
    unittest.main()
