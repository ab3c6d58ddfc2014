"""The refusals, each a class of its own under ScribeError."""


class ScribeError(ValueError):
    """Any refusal."""


class NoWay(ScribeError):
    """What was handed in is no way of the scribe."""


class NoRoom(ScribeError):
    """The scribe has no such room."""


class NotPlain(ScribeError):
    """A plain scribe is asked for."""


class OtherSigns(ScribeError):
    """The two scribes don't have the same signs."""


class TooMany(ScribeError):
    """There are more rooms, pairs or letters than are taken on."""


class TwoWays(ScribeError):
    """The scribe writes more than one word for some text, as its two ways show."""

    def __init__(self, ways):
        ScribeError.__init__(self, ways)
        self.ways = ways


class NeverPlain(ScribeError):
    """No plain scribe writes the same, as two rows with a round behind each show."""

    def __init__(self, ones, others):
        ScribeError.__init__(self, ones, others)
        self.ones = ones
        self.others = others


class NoText(ScribeError):
    """The text isn't one that tells of a scribe."""
