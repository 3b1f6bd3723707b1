"""Texts: books and states are written down, and read to the one whose text it is."""

from hushrules.books import MOST_RULES, Book, is_rule, rule_line, spaced
from hushrules.checks import is_state_of, is_wheels
from hushrules.errors import NoText

FIGURES = "0123456789"
MOST_FIGURES = 60


def show_book(book):
    """The book's text."""
    return str(book)


def read_book(text):
    """The book whose text it is."""
    if not isinstance(text, str):
        raise NoText(0)
    lines = text.split("\n")
    first, *others = lines
    if len(others) > MOST_RULES:
        raise NoText(0)
    wheels = read_numbers(first)[1:]
    if not is_wheels(wheels) or "wheels " + spaced(wheels) != first:
        raise NoText(1)
    rules = []
    for number, line in enumerate(others):
        rule = read_rule(line)
        # A rule is read loosely: it counts only where its own text is this very line.
        if not is_rule(wheels, len(others), rule) or rule_line(rule) != line:
            raise NoText(number + 2)
        rules.append(rule)
    return Book(wheels, tuple(rules))


def show_state(state):
    """The state's text."""
    values, left = state
    return f"{spaced(values)} | {spaced_or_dash(left)}"


def read_state(book, text):
    """The state of the book whose text it is."""
    if not isinstance(text, str):
        raise NoText(0)
    values, bar, left = text.partition(" | ")
    state = (read_numbers(values), () if left == "-" else read_numbers(left))
    if not is_state_of(book, state):
        raise NoText(0)
    return state


def spaced_or_dash(numbers):
    return spaced(numbers) if len(numbers) > 0 else "-"


def is_number(word):
    """Whether it is a number in figures, without a 0 ahead of others, of at most sixty figures."""
    if not 1 <= len(word) <= MOST_FIGURES or not all([sign in FIGURES for sign in word]):
        return False
    return word == "0" or word[0] != "0"


def read_numbers(text):
    """The words of the text, those that are numbers as such."""
    return tuple([int(word) if is_number(word) else word for word in text.split(" ")])


def read_rule(line):
    """What may be the rule of this line, or None."""
    parts = [read_part(part) for part in line.split(" / ")]
    if len(parts) != 4:
        return None
    test, changes, hushes, wakes = parts
    return (test, changes, tuple([(row[0], row[-1]) for row in hushes]), tuple([row[0] for row in wakes]))


def read_part(part):
    return () if part == "-" else tuple([read_numbers(thing) for thing in part.split(", ")])
