"""Sheets: a drawing that is kept through deeds, refused deeds and deeds taken back."""

from bentlines.beside import beside_of
from bentlines.drawings import Drawing, check_drawing
from bentlines.errors import BadKind, BentError, NothingDone, Refused
from bentlines.exchanges import exchanged
from bentlines.lastlines import put_in, taken_out
from bentlines.loose import loosened
from bentlines.numbers import check_int
from bentlines.shifts import shifted
from bentlines.through import order_through_places
from bentlines.ties import tied
from bentlines.triangles import turned_over

MOST_KEPT = 500


def exchange_deed(drawing, at):
    """Return the drawing behind the deed exchange."""
    return exchanged(drawing, at)


def turn_over_deed(drawing, three):
    """Return the drawing behind the deed turn_over."""
    return Drawing.of(turned_over(drawing.chart(), three))


def tie_deed(drawing, lot):
    """Return the drawing behind the deed tie."""
    return Drawing.of(tied(drawing.chart(), lot))


def loosen_deed(drawing, knot, signs):
    """Return the drawing behind the deed loosen."""
    return Drawing.of(loosened(drawing.chart(), knot, signs))


def put_deed(drawing, name, order):
    """Return the drawing behind the deed put."""
    return Drawing.of(put_in(drawing.chart(), name, order))


def put_through_deed(drawing, place, other, name):
    """Return the drawing behind the deed put_through."""
    chart = drawing.chart()
    order = order_through_places(chart, name, place, other)
    return Drawing.of(put_in(chart, name, order))


def take_deed(drawing, line):
    """Return the drawing behind the deed take."""
    return Drawing.of(taken_out(drawing.chart(), line))


def roll_deed(drawing, times):
    """Return the drawing behind the deed roll."""
    return Drawing.of(drawing.chart().rolled(times))


def mirror_deed(drawing):
    """Return the drawing behind the deed mirror."""
    return Drawing.of(drawing.chart().mirrored())


def half_turn_deed(drawing):
    """Return the drawing behind the deed half_turn."""
    return Drawing.of(drawing.chart().contrary())


def shift_deed(drawing, knot):
    """Return the drawing behind the deed shift."""
    return Drawing.of(shifted(drawing.chart(), knot))


def lay_beside_deed(drawing, other):
    """Return the drawing behind the deed lay_beside."""
    return Drawing.of(beside_of(drawing.chart(), other))


def become_deed(drawing, chart):
    """Return the drawing behind the deed become, whatever drawing was there."""
    return Drawing.of(chart)


DEEDS = {
    "exchange": exchange_deed,
    "turn_over": turn_over_deed,
    "tie": tie_deed,
    "loosen": loosen_deed,
    "put": put_deed,
    "put_through": put_through_deed,
    "take": take_deed,
    "roll": roll_deed,
    "mirror": mirror_deed,
    "half_turn": half_turn_deed,
    "shift": shift_deed,
    "lay_beside": lay_beside_deed,
    "become": become_deed,
}

# How many arguments each deed has; a deed that is not here has one.
COUNTS = {"loosen": 2, "put": 2, "put_through": 3, "mirror": 0, "half_turn": 0}


def drawing_behind(drawing, word, given):
    """Return the drawing behind the deed of this name with these arguments, or refuse it."""
    action = DEEDS[word]
    try:
        return action(drawing, *given)
    except BentError as why:
        raise Refused(word) from why


def check_deeds(deeds):
    """Raise BadKind unless this is a list or tuple of deeds, each with its name and as many arguments as it has."""
    if not isinstance(deeds, (list, tuple)) or not all([is_deed(deed) for deed in deeds]):
        raise BadKind("deeds")


def is_deed(deed):
    """Return whether this is a list or tuple of the name of a deed and as many arguments as it has."""
    if not isinstance(deed, (list, tuple)) or not deed:
        return False
    word = deed[0]
    return isinstance(word, str) and word in DEEDS and len(deed) == 1 + COUNTS.get(word, 1)


def check_sheet(sheet):
    """Return the value if it is a sheet."""
    if not isinstance(sheet, Sheet):
        raise BadKind("sheet")
    return sheet


class Sheet:
    """A drawing with the deeds done to it, each with the drawing that was there ahead of it."""

    def __init__(self, drawing, *, most=200):
        check_drawing(drawing)
        check_int(most, "most", 1, MOST_KEPT)
        self.drawing = drawing
        self.most = most
        self.kept = ()
        self.called = ""

    @property
    def done(self):
        """How many deeds are kept."""
        return len(self.kept)

    @property
    def name(self):
        """What the sheet is called."""
        return self.called

    @name.setter
    def name(self, value):
        if not isinstance(value, str):
            raise BadKind("name")
        self.called = value

    def call_it(self, word):
        """Give the sheet a name."""
        self.name = word

    def chart(self):
        """Return the chart of the drawing."""
        return self.drawing.chart()

    def do_deed(self, word, given):
        """Do the deed of this name with these arguments, keep it and return the new chart."""
        drawing = drawing_behind(self.drawing, word, given)
        kept = (*self.kept, (word, self.drawing))
        self.kept = kept[-self.most:]
        self.drawing = drawing
        return self.chart()

    def exchange(self, at):
        """Exchange the turns with the indexes at and at + 1."""
        return self.do_deed("exchange", [at])

    def turn_over(self, three):
        """Turn a triangle over."""
        return self.do_deed("turn_over", [three])

    def tie(self, lot):
        """Tie a lot of lines in one point."""
        return self.do_deed("tie", [lot])

    def loosen(self, knot, signs):
        """Give the threes of a knot these signs."""
        return self.do_deed("loosen", [knot, signs])

    def put(self, name, order):
        """Put in a new line with this name and order."""
        return self.do_deed("put", [name, order])

    def put_through(self, place, other, name):
        """Put in a new line with this name that goes along both places."""
        return self.do_deed("put_through", [place, other, name])

    def take(self, line):
        """Take the line out."""
        return self.do_deed("take", [line])

    def roll(self, times):
        """Roll the chart so many times."""
        return self.do_deed("roll", [times])

    def mirror(self):
        """Mirror the chart."""
        return self.do_deed("mirror", [])

    def half_turn(self):
        """Go over to the contrary chart."""
        return self.do_deed("half_turn", [])

    def shift(self, knot):
        """Shift the chart at a first knot."""
        return self.do_deed("shift", [knot])

    def lay_beside(self, other):
        """Lay another chart beside this one."""
        return self.do_deed("lay_beside", [other])

    def become(self, chart):
        """Go over to any sound chart."""
        return self.do_deed("become", [chart])

    def back(self):
        """Take the last kept deed back and return the chart then."""
        if not self.kept:
            raise NothingDone()
        _, drawing = self.kept[-1]
        self.kept = self.kept[:-1]
        self.drawing = drawing
        return self.chart()

    def records(self):
        """Return the names of the kept deeds, the oldest first."""
        return tuple([word for word, _ in self.kept])

    def tried(self, deeds):
        """Return the chart that the sheet would have behind these deeds; the sheet stays as it is."""
        check_deeds(deeds)
        drawing = self.drawing
        for deed in deeds:
            word, *given = deed
            drawing = drawing_behind(drawing, word, given)
        return drawing.chart()


class Trial:
    """A block behind which the sheet is again as it was at the beginning of the block."""

    def __init__(self, sheet):
        self.sheet = check_sheet(sheet)

    def __enter__(self):
        self.drawing = self.sheet.drawing
        self.kept = self.sheet.kept
        self.called = self.sheet.called
        return self.sheet

    def __exit__(self, kind, value, trace):
        sheet = self.sheet
        sheet.drawing = self.drawing
        sheet.kept = self.kept
        sheet.called = self.called
