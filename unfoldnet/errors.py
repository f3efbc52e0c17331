"""The refusals: one class for each, all of them straight under NetError."""


class NetError(ValueError):
    """Any refusal."""


class NoNet(NetError):
    """The moves and the places do not make a net."""

    def __init__(self):
        NetError.__init__(self, "this makes no net")


class NoText(NetError):
    """The thing is not a net's text."""

    def __init__(self):
        NetError.__init__(self, "this is no text of a net")


class NoMove(NetError):
    """The net has no such move; `at` is its number in the row."""

    def __init__(self, at):
        NetError.__init__(self, f"at {at}: the net has no such move")
        self.at = at


class Held(NetError):
    """The move lacks a bead; `at` is its number in the row."""

    def __init__(self, at):
        NetError.__init__(self, f"at {at}: a bead is lacking")
        self.at = at


class Full(NetError):
    """The move would give a place a second bead; `at` is its number in the row."""

    def __init__(self, at):
        NetError.__init__(self, f"at {at}: a place would have a second bead")
        self.at = at


class Crowded(NetError):
    """The net crowds; `row` is a row that shows it, with as few moves as any."""

    def __init__(self, row):
        NetError.__init__(self, f"the net crowds: {row!r}")
        # A copy, so that a later change of the list handed in does not show.
        self.row = list(row)


class NoSpot(NetError):
    """The web has no spot of this number."""

    def __init__(self):
        NetError.__init__(self, "the web has no such spot")


class Misfit(NetError):
    """The spots are not just one of each place from which the move takes."""

    def __init__(self):
        NetError.__init__(self, "the spots do not fit the move")


class Apart(NetError):
    """Two spots are not side by side; `one` is the lesser of them."""

    def __init__(self, one, other):
        NetError.__init__(self, f"the spots {one} and {other} are not side by side")
        self.one = one
        self.other = other


class Twice(NetError):
    """The occurrence `number` is there already, of this move with these spots."""

    def __init__(self, number):
        NetError.__init__(self, f"this is there as occurrence {number}")
        self.number = number


class NoOccurrence(NetError):
    """The web has no occurrence of this number."""

    def __init__(self):
        NetError.__init__(self, "the web has no such occurrence")


class Clash(NetError):
    """Two troops do not go together: `one` of the first and `other` of the second clash."""

    def __init__(self, one, other):
        NetError.__init__(self, f"the occurrences {one} and {other} clash")
        self.one = one
        self.other = other


class TooMany(NetError):
    """There are more rows than are told."""

    def __init__(self):
        NetError.__init__(self, "there are too many rows")


class NoPlace(NetError):
    """The net has no such place."""

    def __init__(self):
        NetError.__init__(self, "the net has no such place")


class NoRow(NetError):
    """The desk knows no such row of words."""

    def __init__(self):
        NetError.__init__(self, "the desk knows no such row")


class NoName(NetError):
    """The word is no name, or no net stands by it."""

    def __init__(self):
        NetError.__init__(self, "this is no name, or no net stands by it")
