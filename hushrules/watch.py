"""A watch: stands over a book at some beat, and hands may change what stands there, and take it back."""

from hushrules.books import begun
from hushrules.checks import LONGEST_LEFT, is_below, is_within, want_beats, want_off, want_rule
from hushrules.errors import NoBeat, Nothing, NoPlace, NoWheel
from hushrules.runs import went_on
from hushrules.texts import show_state


class Watch:
    """Goes on along a book's run; each of its deeds can be taken back."""

    def __init__(self, book, values, *, off=()):
        state = begun(book, values)
        want_off(book, off)
        self.book = book
        # The beat, the state, what is put off, the counts: a tuple, so that it is kept and taken back as a whole.
        self.moment = (0, state, off, (0,) * len(book.rules))
        self.past = ()

    def __eq__(self, other):
        return isinstance(other, Watch) and self.book == other.book and self.moment == other.moment

    def __len__(self):
        return len(self.past)

    def __str__(self):
        return f"beat {self.now()}: {show_state(self.state())}"

    def go(self, beats=1):
        """Goes on by so many beats, and tells how often each rule did meanwhile."""
        want_beats(beats, 0)
        now, state, off, counts = self.moment
        then, dids = went_on(self.book, state, beats, off)
        self.enter((now + beats, then, off, tuple([count + did for count, did in zip(counts, dids)])))
        return dids

    def hush(self, rule, beats=1):
        """Hushes the rule for so many beats more, where it isn't so for longer already."""
        want_rule(self.book, rule)
        if not is_within(beats, 1, LONGEST_LEFT):
            raise NoBeat(beats)
        values, left = self.state()
        self.enter_state(values, replaced(left, rule, max(left[rule], beats)))

    def wake(self, rule):
        want_rule(self.book, rule)
        values, left = self.state()
        self.enter_state(values, replaced(left, rule, 0))

    def turn(self, wheel, by=1):
        """The wheel goes on by so many places, round and round."""
        self.want_wheel(wheel)
        want_beats(by, 0)
        values, left = self.state()
        self.enter_state(replaced(values, wheel, (values[wheel] + by) % self.book.wheels[wheel]), left)

    def put(self, wheel, place):
        self.want_wheel(wheel)
        if not is_below(place, self.book.wheels[wheel]):
            raise NoPlace(place)
        values, left = self.state()
        self.enter_state(replaced(values, wheel, place), left)

    def put_off(self, rule):
        want_rule(self.book, rule)
        self.enter_off(tuple(sorted(set(self.off() + (rule,)))))

    def put_on(self, rule):
        want_rule(self.book, rule)
        self.enter_off(tuple([other for other in self.off() if other != rule]))

    def undo(self):
        """Takes back the last deed that hasn't been taken back."""
        if len(self.past) == 0:
            raise Nothing("no deed can be taken back")
        self.moment = self.past[-1]
        self.past = self.past[:-1]

    def tried(self, deed):
        """What the deed tells of this watch, which is then as it was."""
        moment = self.moment
        past = self.past
        try:
            return deed(self)
        finally:
            self.moment = moment
            self.past = past

    def now(self):
        return self.moment[0]

    def state(self):
        return self.moment[1]

    def off(self):
        return self.moment[2]

    def counts(self):
        return list(self.moment[3])

    def want_wheel(self, thing):
        if not is_below(thing, len(self.book.wheels)):
            raise NoWheel(thing)

    def enter(self, moment):
        """Each deed ends here, also one that changes nothing."""
        self.past = self.past + (self.moment,)
        self.moment = moment

    def enter_state(self, values, left):
        now, state, off, counts = self.moment
        self.enter((now, (values, left), off, counts))

    def enter_off(self, rules):
        now, state, off, counts = self.moment
        self.enter((now, state, rules, counts))


def replaced(row, at, thing):
    return row[:at] + (thing,) + row[at + 1:]
