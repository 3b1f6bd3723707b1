import itertools
import random
import unittest

from hushrules.books import Book, is_rule
from hushrules.errors import NoText
from hushrules.texts import read_book, read_state, show_book, show_state
from tests.samples import ANY_THINGS, COUNTER, DESK, WATCH, rule, some_book, some_runs

FULL = Book((2, 4, 3), (
    rule((("is", 0, 1), ("not", 1, 2), ("below", 2, 0), ("hushed", 2)), (("turn", 1, 3), ("put", 0, 1), ("turn", 0, 0)),
         ((0, 1), (2, 3)), (1, 4)),
    rule((("awake", 0), ("awake", 0)), (), (), (0, 1, 2, 3, 4)),
    rule((), (("put", 2, 2),), ((1, 2),)),
    rule(),
    rule((), (), ((0, 3), (1, 3), (2, 1), (3, 1), (4, 2))),
))
FULL_TEXT = "\n".join([
    "wheels 2 4 3",
    "is 0 1, not 1 2, below 2 0, hushed 2 / turn 1 3, put 0 1, turn 0 0 / 0 for 1, 2 for 3 / 1, 4",
    "awake 0, awake 0 / - / - / 0, 1, 2, 3, 4",
    "- / put 2 2 / 1 for 2 / -",
    "- / - / - / -",
    "- / - / 0 for 3, 1 for 3, 2 for 1, 3 for 1, 4 for 2 / -",
])
EMPTY_LINE = "- / - / - / -"


def wheel_lines():
    """Each first line that there is, with its wheels."""
    found = {}
    for many in (1, 2, 3):
        for wheels in itertools.product((2, 3, 4), repeat=many):
            multiplied = 1
            for places in wheels:
                multiplied *= places
            if multiplied <= 24:
                found["wheels" + "".join(f" {places}" for places in wheels)] = wheels
    return found


WHEEL_LINES = wheel_lines()


def model_part(part, texts, most):
    """The numbers among texts of a part's things, or None."""
    if part == "-":
        return []
    things = part.split(", ")
    return [texts.index(thing) for thing in things] if len(things) <= most and all(thing in texts for thing in things) else None


def is_rule_line(line, wheels, many):
    """Whether it is a rule's line, by all texts of things that there are."""
    spots = [f"{wheel} {place}" for wheel, places in enumerate(wheels) for place in range(places)]
    tests = [f"{word} {spot}" for word in ("is", "not", "below") for spot in spots]
    tests += [f"{word} {number}" for word in ("hushed", "awake") for number in range(many)]
    changes = [f"{word} {spot}" for word in ("put", "turn") for spot in spots]
    hushes = [f"{number} for {beats}" for number in range(many) for beats in (1, 2, 3)]
    parts = line.split(" / ")
    if len(parts) != 4:
        return False
    kinds = [(tests, 4), (changes, 3), (hushes, 5), ([str(number) for number in range(many)], 5)]
    found = [model_part(part, texts, most) for part, (texts, most) in zip(parts, kinds)]
    if None in found:
        return False
    hushed = [number // 3 for number in found[2]]
    woken = found[3]
    return hushed == sorted(set(hushed)) and woken == sorted(set(woken)) and not set(hushed) & set(woken)


def model_at(text):
    """The field of the refusal, or None where it's a book's text."""
    if type(text) is not str:
        return 0
    first, *others = text.split("\n")
    if len(others) > 5:
        return 0
    if first not in WHEEL_LINES:
        return 1
    for number, line in enumerate(others):
        if not is_rule_line(line, WHEEL_LINES[first], len(others)):
            return number + 2
    return None


def mutated(text):
    """Texts with one sign or word left out, twice, or another one in its place."""
    for n, sign in enumerate(text):
        yield text[:n] + text[n + 1:]
        yield text[:n] + sign + text[n:]
        for other in " -/,|0123459a\n":
            yield text[:n] + other + text[n + 1:]
            yield text[:n] + other + text[n:]
    words = text.split(" ")
    for n, word in enumerate(words):
        yield " ".join(words[:n] + words[n + 1:])
        yield " ".join(words[:n] + [word] + words[n:])
        yield " ".join(words[:n] + [word.upper()] + words[n + 1:])
        yield " ".join(words[:n] + ["is"] + words[n + 1:])
    lines = text.split("\n")
    for n, line in enumerate(lines):
        yield "\n".join(lines[:n] + lines[n + 1:])
        yield "\n".join(lines[:n] + [line] + lines[n:])
        yield "\n".join(lines[:n] + [""] + lines[n:])


class Books(unittest.TestCase):
    def test_by_hand(self):
        for book, text in [
            (Book((2,)), "wheels 2"), (Book((2, 3, 4)), "wheels 2 3 4"), (COUNTER, "wheels 3\n- / turn 0 1 / - / -"), (FULL, FULL_TEXT),
            (Book((4,), (rule(),)), "wheels 4\n- / - / - / -"),
            (Book((2,), (rule(wakes=(0, 1)), rule((("hushed", 1),)))), "wheels 2\n- / - / - / 0, 1\nhushed 1 / - / - / -"),
        ]:
            self.assertEqual(show_book(book), text)
            self.assertEqual(str(book), text)
            read = read_book(text)
            self.assertIs(type(read), Book)
            self.assertEqual(read, book)
            self.assertEqual(repr((read.wheels, read.rules)), repr((book.wheels, book.rules)))

    def test_there_and_back(self):
        dice = random.Random(81)
        many = set()
        for _ in range(500):
            book = some_book(dice)
            text = show_book(book)
            many.add(len(book))
            self.assertEqual(text, str(book))
            self.assertEqual(len(text.split("\n")), len(book) + 1)
            read = read_book(text)
            self.assertEqual(repr((read.wheels, read.rules)), repr((book.wheels, book.rules)))
            self.assertIsNone(model_at(text))
        self.assertEqual(many, {0, 1, 2, 3, 4, 5})

    def test_all_conditions_and_changes(self):
        wheels = (2, 3, 4)
        spots = [(wheel, place) for wheel, places in enumerate(wheels) for place in range(places)]
        for wheel, place in spots:
            for word in ("is", "not", "below"):
                book = Book(wheels, (rule(((word, wheel, place),)),))
                self.assertEqual(show_book(book), f"wheels 2 3 4\n{word} {wheel} {place} / - / - / -")
                self.assertEqual(read_book(show_book(book)), book)
            for word in ("put", "turn"):
                book = Book(wheels, (rule((), ((word, wheel, place),)),))
                self.assertEqual(show_book(book), f"wheels 2 3 4\n- / {word} {wheel} {place} / - / -")
                self.assertEqual(read_book(show_book(book)), book)

    def test_all_wheels(self):
        for text, wheels in WHEEL_LINES.items():
            self.assertEqual(repr(read_book(text).wheels), repr(wheels))

    def test_by_name(self):
        self.assertEqual(show_book(book=COUNTER), "wheels 3\n- / turn 0 1 / - / -")
        self.assertEqual(read_book(text="wheels 3"), Book((3,)))


class NoBookTexts(unittest.TestCase):
    def at(self, text):
        with self.assertRaises(NoText, msg=repr(text)[:80]) as refused:
            read_book(text)
        self.assertIs(type(refused.exception.at), int)
        return refused.exception.at

    def test_no_text(self):
        for thing in ANY_THINGS:
            self.assertEqual(self.at(thing), 1 if type(thing) is str else 0)
        for thing in (None, 0, True, COUNTER, WATCH, DESK, ["wheels 2"], ("wheels 2",), ("wheels", 2)):
            self.assertEqual(self.at(thing), 0)

    def test_more_than_six_lines(self):
        self.assertEqual(len(read_book("\n".join(["wheels 2"] + [EMPTY_LINE] * 5))), 5)
        self.assertEqual(self.at("\n".join(["wheels 2"] + [EMPTY_LINE] * 6)), 0)
        self.assertEqual(self.at("\n".join(["wheels 2"] + [EMPTY_LINE] * 5) + "\n"), 0)
        self.assertEqual(self.at("\n" * 6), 0)
        self.assertEqual(self.at("\n" * 2000), 0)
        self.assertEqual(self.at("\n" * 5), 1)
        self.assertEqual(self.at("\n".join(["x"] * 7)), 0)

    def test_without_signs(self):
        self.assertEqual(self.at(""), 1)

    def test_a_line_feed_at_the_end(self):
        self.assertEqual(self.at("wheels 2\n"), 2)
        self.assertEqual(self.at("wheels 2\n- / - / - / -\n"), 3)
        self.assertEqual(self.at("wheels 2\n\n- / - / - / -"), 2)
        self.assertEqual(self.at("\nwheels 2"), 1)
        self.assertEqual(self.at("wheels 2\n- / - / - / 1\n"), 3)
        self.assertEqual(self.at("wheels 2\n- / - / - / 2\n"), 2)

    def test_first_lines_that_are_none(self):
        for line in ["wheels", "wheels ", "wheels 1", "wheels 5", "wheels 02", "wheels 2 ", " wheels 2", "wheels  2", "wheels 2  3", "wheel 2",
                     "Wheels 2", "2", "wheels 2 2 2 2", "wheels 4 4 2", "wheels 3 3 3", "wheels 2,3", "wheels 2, 3", "wheels two", "wheels -2",
                     "wheels +2", "wheels 2.", "wheels 2 / 3", "wheels 10", "wheels 2\t3", "wheels" + " 2" * 900, "wheels " + "2" * 1900,
                     "wheels -", "2 wheels", "wheels wheels 2", EMPTY_LINE, "wheels 2 | 3"]:
            self.assertEqual(self.at(line), 1, line)
            self.assertEqual(self.at(line + "\n" + EMPTY_LINE), 1)
            self.assertEqual(self.at(line + "\nnone"), 1)

    def test_lines_of_rules_that_are_none(self):
        wrong = [
            "", "-", "- / - / -", "- / - / - / - / -", "-/-/-/-", "- /- / - / -", "- / - / - /-", " - / - / - / -", "- / - / - / - ",
            "-  / - / - / -", "- / -  / - / -", " / - / - / -", "- /  / - / -", "- / - / - / ", "x / - / - / -", "- - - -", "-, - / - / - / -",
            "is 0 2 / - / - / -", "is 3 0 / - / - / -", "is 0 / - / - / -", "is 0 1 1 / - / - / -", "is 00 1 / - / - / -", "is 0 01 / - / - / -",
            "Is 0 1 / - / - / -", "is 0 1,is 0 1 / - / - / -", "is 0 1 , is 0 1 / - / - / -", "is 0 1,  is 0 1 / - / - / -", "is  0 1 / - / - / -",
            "is 0 1, / - / - / -", "is 0 1, - / - / - / -", ", is 0 1 / - / - / -", "is 0 -1 / - / - / -", "is 0 +1 / - / - / -", "is 0 x / - / - / -",
            "is 0 1, is 0 1, is 0 1, is 0 1, is 0 1 / - / - / -", "was 0 1 / - / - / -", "put 0 1 / - / - / -", "0 / - / - / -",
            "hushed 2 / - / - / -", "awake 2 / - / - / -", "hushed / - / - / -", "hushed 0 0 / - / - / -", "awake 00 / - / - / -",
            "- / put 0 2 / - / -", "- / turn 0 2 / - / -", "- / is 0 1 / - / -", "- / put 0 / - / -", "- / hushed 0 / - / -", "- / 0 / - / -",
            "- / put 0 1, put 0 1, put 0 1, put 0 1 / - / -", "- / turn 0 1 turn 0 1 / - / -", "- / turn 3 0 / - / -",
            "- / - / 0 for 0 / -", "- / - / 0 for 4 / -", "- / - / 2 for 1 / -", "- / - / 0 for / -", "- / - / for 1 / -", "- / - / 0 1 / -",
            "- / - / 0 / -", "- / - / 1 / -", "- / - / 0 For 1 / -", "- / - / 0 of 1 / -", "- / - / 0 for 1 1 / -", "- / - / 0 for for 1 / -",
            "- / - / 0 for 01 / -", "- / - / 00 for 1 / -", "- / - / 0  for 1 / -", "- / - / 0 for  1 / -", "- / - / 1 for 1, 0 for 1 / -",
            "- / - / 0 for 1, 0 for 1 / -", "- / - / 0 for 1, 0 for 2 / -", "- / - / 0 for 1,1 for 1 / -", "- / - / x for 1 / -",
            "- / - / - / 2", "- / - / - / 00", "- / - / - / 1, 0", "- / - / - / 0, 0", "- / - / - / 0 1", "- / - / - / 0,1", "- / - / - / 0 for 1",
            "- / - / - / wake 0", "- / - / - / x", "- / - / - / 0 x", "- / - / - / -1", "- / - / - / 0, -",
            "- / - / 0 for 1 / 0", "- / - / 0 for 1, 1 for 2 / 1", "- / - / 1 for 3 / 0, 1", "wheels 2", "is 0 1", "- / - / - / " + "0" * 1500,
            "is 0 " + "1" * 61 + " / - / - / -", "- | - | - | -", "- / - / - / -\t",
        ]
        for line in wrong:
            self.assertEqual(self.at("wheels 2 2 3\n" + line + "\n" + EMPTY_LINE), 2, line)
            self.assertEqual(self.at("wheels 2 2 3\n" + EMPTY_LINE + "\n" + line), 3, line)
            self.assertEqual(model_at("wheels 2 2 3\n" + line + "\n" + EMPTY_LINE), 2, line)

    def test_the_first_line_that_is_none(self):
        lines = ["wheels 2"] + [EMPTY_LINE] * 5
        for n in range(1, 6):
            for m in range(n, 6):
                wrong = list(lines)
                wrong[n] = wrong[m] = "- / - / - / 5"
                self.assertEqual(self.at("\n".join(wrong)), n + 1)

    def test_as_many_rules_as_lines(self):
        for many in range(1, 6):
            for number in range(6):
                text = "\n".join(["wheels 2"] + [EMPTY_LINE] * (many - 1) + [f"hushed {number} / - / {number} for 1 / -"])
                if number < many:
                    self.assertEqual(len(read_book(text)), many)
                else:
                    self.assertEqual(self.at(text), many + 1)

    def test_texts_near_to_right_ones(self):
        dice = random.Random(82)
        books = [FULL, COUNTER, Book((2,)), Book((2, 3), (rule(wakes=(0, 1)), rule(hushes=((0, 1), (1, 2)))))]
        right = 0
        for book in books + [some_book(dice) for _ in range(12)]:
            others = list(mutated(show_book(book)))
            for text in dice.sample(others, min(len(others), 700)):
                at = model_at(text)
                if at is None:
                    right += 1
                    self.assertEqual(show_book(read_book(text)), text)
                else:
                    self.assertEqual(self.at(text), at, text)
        self.assertGreater(right, 100)

    def test_refused_twice(self):
        for _ in range(2):
            self.assertEqual(self.at("wheels 2\nx"), 2)
        self.assertEqual(read_book("wheels 2"), Book((2,)))


class States(unittest.TestCase):
    book = Book((2, 3), (rule(), rule()))

    def test_by_hand(self):
        for state, text in [(((1, 2), (0, 2)), "1 2 | 0 2"), (((0, 0), (1, 0)), "0 0 | 1 0")]:
            self.assertEqual(show_state(state), text)
            self.assertEqual(repr(read_state(self.book, text)), repr(state))
        self.assertEqual(show_state(((3,), ())), "3 | -")
        self.assertEqual(repr(read_state(Book((4,)), "3 | -")), "((3,), ())")
        self.assertEqual(show_state(((0,), (0, 1, 2, 1, 0))), "0 | 0 1 2 1 0")

    def test_there_and_back(self):
        for book, state, _ in some_runs(83, 300):
            self.assertEqual(repr(read_state(book, show_state(state))), repr(state))

    def test_no_text(self):
        for thing in [*ANY_THINGS, None, WATCH, DESK, ((0, 0), (0, 0)), ["0 0 | 0 0"], b"0 0 | 0 0"]:
            self.refused(self.book, thing)

    def refused(self, book, text):
        with self.assertRaises(NoText, msg=repr(text)[:80]) as refused:
            read_state(book, text)
        self.assertEqual(repr(refused.exception.at), "0")

    def test_texts_that_are_none(self):
        for text in ["", "0 0", "0 0 |", "0 0 | ", "| 0 0", " | 0 0", "0 0 | -", "- | 0 0", "0 0 | 0", "0 0 | 0 0 0", "0 | 0 0", "0 0 0 | 0 0",
                     "2 0 | 0 0", "0 3 | 0 0", "0 0 | 0 3", "0 0 | 3 0", "00 0 | 0 0", "0 0 | 00 0", "0 0 | 0 02", "0  0 | 0 0", "0 0  | 0 0",
                     "0 0 |  0 0", "0 0 | 0  0", " 0 0 | 0 0", "0 0 | 0 0 ", "0 0 | 0 0\n", "\n0 0 | 0 0", "0 0|0 0", "0 0 | 0 0 | 0 0", "0 0 / 0 0",
                     "0,0 | 0,0", "0, 0 | 0, 0", "x 0 | 0 0", "0 0 | 0 x", "-1 0 | 0 0", "+1 0 | 0 0", "0 0 | - -", "0 0 | 0 -", "0 0 || 0 0",
                     "beat 0: 0 0 | 0 0", "0 0 | 0 0.", "1" * 61 + " 0 | 0 0", "0 0 | 0 " + "1" * 1900]:
            self.refused(self.book, text)

    def test_without_rules(self):
        book = Book((2, 2))
        for text in ["0 0 | ", "0 0 |", "0 0", "0 0 | 0", "0 0 | --", "0 0 | - -", "0 0 | -\n", "0 0 | - ", "2 0 | -"]:
            self.refused(book, text)
        self.assertEqual(read_state(book, "0 1 | -"), ((0, 1), ()))

    def test_texts_of_another_book(self):
        for other in (Book((2, 3)), Book((2, 3), (rule(),)), Book((2,), (rule(), rule())), Book((2, 3, 2), (rule(), rule()))):
            self.refused(other, "1 2 | 0 2")
        self.refused(Book((2, 2), (rule(), rule())), "1 2 | 0 2")
        self.refused(COUNTER, show_book(COUNTER))
        self.assertEqual(read_state(Book((4, 4), (rule(), rule())), "1 2 | 0 2"), ((1, 2), (0, 2)))

    def test_texts_near_to_right_ones(self):
        texts = {}
        for values in itertools.product(range(2), range(3)):
            for left in itertools.product(range(3), repeat=2):
                texts[" ".join(map(str, values)) + " | " + " ".join(map(str, left))] = (values, left)
        for text in ("0 0 | 0 0", "1 2 | 2 1"):
            for other in mutated(text):
                if other in texts:
                    self.assertEqual(repr(read_state(self.book, other)), repr(texts[other]))
                else:
                    self.refused(self.book, other)

    def test_by_name(self):
        self.assertEqual(read_state(text="0 0 | 0 0", book=self.book), ((0, 0), (0, 0)))
        self.assertEqual(show_state(state=((0,), ())), "0 | -")

    def test_what_is_read_is_a_rule(self):
        for line in FULL_TEXT.split("\n")[1:]:
            self.assertTrue(is_rule_line(line, FULL.wheels, 5))
        self.assertTrue(all(is_rule(FULL.wheels, 5, thing) for thing in read_book(FULL_TEXT).rules))


if __name__ == "__main__":
    unittest.main()
