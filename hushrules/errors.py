"""The refusals, each a class of its own."""


class HushError(ValueError):
    """What the refusals straight under it have in common."""


class NoBook(HushError):
    """The wheels or rules as a whole (at is -1), or the rule of the number at, are none."""

    def __init__(self, at):
        HushError.__init__(self, f"no book: {at}")
        self.at = at


class NoState(HushError):
    """What was handed in is no state, or are no values, of the book."""


class NoOrder(HushError):
    """What was handed in is no order of the book's rules."""


class NoOff(HushError):
    """What was handed in is no rising tuple of the book's rules."""


class NoWish(HushError):
    """What was handed in is no wish of the book."""


class NoSeen(HushError):
    """What is seen as a whole (at is -1), or the sighting of the number at, is none."""

    def __init__(self, at):
        HushError.__init__(self, f"nothing seen: {at}")
        self.at = at


class NoText(HushError):
    """What was handed in is no text of this kind: as a whole (at is 0), or its line at."""

    def __init__(self, at):
        HushError.__init__(self, f"no text: {at}")
        self.at = at


class NoSaying(HushError):
    """What was handed in is no row that a desk knows."""


class Unlike(HushError):
    """Two books have other wheels."""


# The fields below may be any thing, so no message is made of them.


class NoRule(LookupError):
    """The book has no rule of this number."""

    def __init__(self, rule):
        LookupError.__init__(self, "no rule of the book")
        self.rule = rule


class NoWheel(LookupError):
    """The book has no wheel of this number."""

    def __init__(self, wheel):
        LookupError.__init__(self, "no wheel of the book")
        self.wheel = wheel


class NoBeat(OverflowError):
    """What was handed in is no number of beats, or none within the bounds."""

    def __init__(self, beats):
        OverflowError.__init__(self, "no number of beats")
        self.beats = beats


class NoPlace(IndexError):
    """The wheel has no such place."""

    def __init__(self, place):
        IndexError.__init__(self, "no place of the wheel")
        self.place = place


class Nothing(RuntimeError):
    """There is no deed that can be taken back."""
