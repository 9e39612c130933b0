"""The refusals of letinrow: each has the fields that it was made with."""


def kept(thing):
    """A list handed in for a tuple is copied, since its owner may change it later."""
    return tuple(thing) if isinstance(thing, list) else thing


class BadDeed(ValueError):
    """The deed of that number is no deed, or can't be done."""

    def __init__(self, number):
        ValueError.__init__(self, f"deed {number} can't be done")
        self.number = number


class BadSight(ValueError):
    """The sight of that number can't have been seen."""

    def __init__(self, number):
        ValueError.__init__(self, f"sight {number} can't be")
        self.number = number


class BadDay(ValueError):
    """That deed of that day can't be."""

    def __init__(self, day, deed):
        ValueError.__init__(self, f"deed {deed} of day {day} can't be")
        self.day = day
        self.deed = deed


class BadText(ValueError):
    """The text is not the text of anything asked for."""

    def __init__(self, text):
        ValueError.__init__(self, f"not so written: {text}")
        self.text = text


class BadRow(ValueError):
    """The row of that number of a sheet isn't so written."""

    def __init__(self, number):
        ValueError.__init__(self, f"row {number} is not so written")
        self.number = number


class Astray(ValueError):
    """One of the elders isn't in the line, or not in its order."""

    def __init__(self, who):
        ValueError.__init__(self, f"{who} is astray")
        self.who = who


class Apart(ValueError):
    """Two orders don't come to the same row."""

    def __init__(self):
        ValueError.__init__(self, "the rows of both orders are not the same")


class NoOrder(LookupError):
    """The row has no order of that number."""

    def __init__(self, number):
        LookupError.__init__(self, f"there is no order {number}")
        self.number = number


class NoDeed(LookupError):
    """There aren't so many deeds that stand."""

    def __init__(self, many):
        LookupError.__init__(self, f"there are no {many} deeds that stand")
        self.many = many


class Strange(LookupError):
    """The two aren't friends."""

    def __init__(self, pair):
        LookupError.__init__(self, f"not friends: {pair}")
        self.pair = kept(pair)


class Gone(LookupError):
    """Who is asked about isn't in the row."""

    def __init__(self, who):
        LookupError.__init__(self, f"{who} is not in the row")
        self.who = who


class Here(RuntimeError):
    """Who comes is in the row already."""

    def __init__(self, who):
        RuntimeError.__init__(self, f"{who} is in the row already")
        self.who = who


class Known(RuntimeError):
    """The two are friends already."""

    def __init__(self, pair):
        RuntimeError.__init__(self, f"friends already: {pair}")
        self.pair = kept(pair)


class Bare(RuntimeError):
    """Nobody is there to be served."""

    def __init__(self):
        RuntimeError.__init__(self, "the row is bare")


class Stuck(RuntimeError):
    """The row has no order: these are left when all go that can."""

    def __init__(self, left):
        RuntimeError.__init__(self, f"the row has no order: {left}")
        self.left = kept(left)
