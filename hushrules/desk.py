"""A desk: is told rows of words, and answers each with a text."""

from hushrules.books import spaced
from hushrules.errors import NoSaying
from hushrules.lots import never
from hushrules.offs import fewest
from hushrules.orders import orders
from hushrules.runs import nth, quiet_from, round_of, state_at, times
from hushrules.seen import began, clash, want_seen
from hushrules.texts import is_number, read_book, show_state, spaced_or_dash
from hushrules.watch import Watch


def begin(desk, *values):
    if len(values) != len(desk.book.wheels):
        raise NoSaying("not as many values as wheels")
    desk.watch = Watch(desk.book, values)
    return "ok"


def hush(desk, rule, beats):
    desk.watch.hush(rule, beats)
    return "ok"


def wake(desk, rule):
    desk.watch.wake(rule)
    return "ok"


def turn(desk, wheel, by):
    desk.watch.turn(wheel, by)
    return "ok"


def put(desk, wheel, place):
    desk.watch.put(wheel, place)
    return "ok"


def put_off(desk, rule):
    desk.watch.put_off(rule)
    return "ok"


def put_on(desk, rule):
    desk.watch.put_on(rule)
    return "ok"


def undo(desk):
    desk.watch.undo()
    return "ok"


def go(desk, beats):
    return spaced_or_dash(desk.watch.go(beats))


def tell_state(desk):
    return show_state(desk.watch.state())


def tell_beat(desk):
    return str(desk.watch.now())


def tell_counts(desk):
    return spaced_or_dash(desk.watch.counts())


def tell_at(desk, beats):
    return show_state(state_at(desk.book, desk.watch.state(), beats, off=desk.watch.off()))


def tell_round(desk):
    return spaced(round_of(desk.book, desk.watch.state(), off=desk.watch.off()))


def tell_quiet(desk):
    return number_or_no(quiet_from(desk.book, desk.watch.state(), off=desk.watch.off()))


def tell_times(desk, rule, beats):
    return str(times(desk.book, desk.watch.state(), rule, beats, off=desk.watch.off()))


def tell_nth(desk, rule, many):
    return number_or_no(nth(desk.book, desk.watch.state(), rule, many, off=desk.watch.off()))


def tell_never(desk, rule):
    paper = never(desk.book, rule)
    return "never" if paper[0] == "never" else first_place(paper)


def tell_order(desk):
    paper = orders(desk.book)
    return "free" if paper[0] == "free" else first_place(paper)


def wish_quiet(desk):
    return tell_fewest(desk, ("quiet",))


def wish_never(desk, rule):
    return tell_fewest(desk, ("never", rule))


def wish_does(desk, rule):
    return tell_fewest(desk, ("does", rule))


def wish_at(desk, wheel, place):
    return tell_fewest(desk, ("at", wheel, place))


def saw_stood(desk, beats, wheel, place):
    return note(desk, ("stood", beats, wheel, place))


def saw_did(desk, beats, rule):
    return note(desk, ("did", beats, rule))


def saw_rested(desk, beats, rule):
    return note(desk, ("rested", beats, rule))


def forget(desk):
    desk.seen = ()
    return "ok"


def tell_began(desk):
    found = began(desk.book, desk.seen)
    return ", ".join([spaced(values) for values in found]) if len(found) > 0 else "no"


def tell_clash(desk):
    paper = clash(desk.book, desk.seen)
    return "no" if paper is None else spaced(paper[1])


def number_or_no(number):
    return "no" if number is None else str(number)


def first_place(paper):
    """The beginning and the beat of a paper that has them behind its head."""
    return f"{spaced(paper[1])} at {paper[2]}"


def tell_fewest(desk, wish):
    paper = fewest(desk.book, wish)
    return "no" if paper[0] == "none" else spaced_or_dash(paper[1])


def note(desk, sighting):
    seen = desk.seen + (sighting,)
    want_seen(desk.book, seen)
    desk.seen = seen
    return "ok"


# Each row by its words, and by how many numbers come behind them.
ACTIONS = {
    ("begin", 1): begin, ("begin", 2): begin, ("begin", 3): begin,
    ("hush", 2): hush, ("wake", 1): wake, ("turn", 2): turn, ("put", 2): put,
    ("off", 1): put_off, ("on", 1): put_on, ("undo", 0): undo, ("go", 1): go,
    ("state", 0): tell_state, ("beat", 0): tell_beat, ("counts", 0): tell_counts,
    ("at", 1): tell_at, ("round", 0): tell_round, ("quiet", 0): tell_quiet,
    ("times", 2): tell_times, ("nth", 2): tell_nth,
    ("never", 1): tell_never, ("order", 0): tell_order,
    ("wish quiet", 0): wish_quiet, ("wish never", 1): wish_never,
    ("wish does", 1): wish_does, ("wish at", 2): wish_at,
    ("saw stood", 3): saw_stood, ("saw did", 2): saw_did, ("saw rested", 2): saw_rested,
    ("forget", 0): forget, ("began", 0): tell_began, ("clash", 0): tell_clash,
}


class Desk:
    """Has a watch over a book, and what was seen of it."""

    def __init__(self, text):
        self.book = read_book(text)
        self.watch = Watch(self.book, (0,) * len(self.book.wheels))
        self.seen = ()

    def say(self, row):
        """The answer to the row."""
        if not isinstance(row, str):
            raise NoSaying("no text")
        head, numbers = parted(row)
        key = (head, len(numbers))
        if key not in ACTIONS:
            raise NoSaying("no row that a desk knows")
        action = ACTIONS[key]
        return action(self, *numbers)


def parted(row):
    """The words of the row as one text, and the numbers that come behind them."""
    words = row.split(" ")
    many = len(words)
    while many > 0 and is_number(words[many - 1]):
        many -= 1
    return " ".join(words[:many]), [int(word) for word in words[many:]]
