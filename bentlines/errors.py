"""All errors of the package."""


class BentError(Exception):
    """The base of all errors of the package."""


class BadNumber(BentError):
    """An argument is no integer within its bounds."""

    def __init__(self, word):
        self.word = word


class BadLine(BentError):
    """A name is no line, or it occurs twice."""

    def __init__(self, line):
        self.line = line


class BadKind(BentError):
    """An argument is of another kind than stated."""

    def __init__(self, word):
        self.word = word


class TooMany(BentError):
    """A bound is exceeded."""

    def __init__(self, word):
        self.word = word


class Degenerate(BentError):
    """The arguments do not determine what is asked for."""

    def __init__(self, word):
        self.word = word


class BadSigns(BentError):
    """The entry at this index is no sign; -1 stands for a wrong kind or length."""

    def __init__(self, at):
        self.at = at


class BadTurn(BentError):
    """The turn at this index cannot be done."""

    def __init__(self, at):
        self.at = at


class NotFar(BentError):
    """The turns at this index and the next one have a stand in common."""

    def __init__(self, at):
        self.at = at


class SameSlope(BentError):
    """The slope at this index is not above the one before it."""

    def __init__(self, at):
        self.at = at


class Unsound(BentError):
    """A chart that must be sound is not; four is its bad four."""

    def __init__(self, four):
        self.four = four


class NotSimple(BentError):
    """A chart that must be simple is not; knot is its least knot of more than two lines."""

    def __init__(self, knot):
        self.knot = knot


class NotReady(BentError):
    """The knot is turned, or kept, ahead of a knot that must come before it."""

    def __init__(self, knot):
        self.knot = knot


class NotPlace(BentError):
    """A lot is no place; three is the least three that is wrong for it."""

    def __init__(self, three):
        self.three = three


class NotTriangle(BentError):
    """The three is no triangle."""

    def __init__(self, three):
        self.three = three


class Parted(BentError):
    """A lot cannot be tied; the line has unlike sides at the two pairs."""

    def __init__(self, line, first, second):
        self.line = line
        self.first = first
        self.second = second


class OnLine(BentError):
    """A spot is on the line."""

    def __init__(self, line):
        self.line = line


class BadText(BentError):
    """The line of this number in a text is wrong."""

    def __init__(self, number):
        self.number = number


class Refused(BentError):
    """The deed of this name is refused."""

    def __init__(self, word):
        self.word = word


class Together(BentError):
    """Things that must be apart are together."""


class BadRatio(BentError):
    """A ratio would have the bottom 0."""


class NothingDone(BentError):
    """There is no deed to take back."""
