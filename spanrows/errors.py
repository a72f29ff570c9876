"""The errors of the package. Each one has the attribute `word`, the name of its class."""


class SpanError(ValueError):
    """The base class of the errors for wrong values."""

    def __init__(self, word, message):
        ValueError.__init__(self, message)
        self.word = word


class BadRow(SpanError):
    """A number that no row has."""

    def __init__(self, number):
        SpanError.__init__(self, "BadRow", f"no row has the number {number}")
        self.number = number


class BadCount(SpanError):
    """A count outside of its limits."""

    def __init__(self, number):
        SpanError.__init__(self, "BadCount", f"the count {number} is not allowed")
        self.number = number


class BadSpan(SpanError):
    """A pair that is not a span."""

    def __init__(self):
        SpanError.__init__(self, "BadSpan", "this is not a span")


class BadPieces(SpanError):
    """Pieces that write no layout; `at` is the index of the first wrong one."""

    def __init__(self, at):
        SpanError.__init__(self, "BadPieces", f"no layout has such a piece at {at}")
        self.at = at


class TooManyPieces(SpanError):
    """A layout with more than `most` pieces in normal form."""

    def __init__(self, most):
        SpanError.__init__(self, "TooManyPieces", f"a layout has at most {most} pieces")
        self.most = most


class BadCommand(SpanError):
    """A script with an item that is not a command; `at` is its index."""

    def __init__(self, at):
        SpanError.__init__(self, "BadCommand", f"the item at {at} is not a command")
        self.at = at


class Clash(SpanError):
    """Two labels of new rows of two layouts, one of them within the other one."""

    def __init__(self, label, other):
        SpanError.__init__(self, "Clash", f"the labels {label} and {other} clash")
        self.label = label
        self.other = other


class BadCell(SpanError):
    """A pair that is not a cell."""

    def __init__(self):
        SpanError.__init__(self, "BadCell", "this is not a cell")


class BadContent(SpanError):
    """A content that no cell can have."""

    def __init__(self):
        SpanError.__init__(self, "BadContent", "this is not a content of a cell")


class Gone(SpanError):
    """A cell with a formula whose box is gone."""

    def __init__(self, cell):
        SpanError.__init__(self, "Gone", f"the box of the formula at {cell} is gone")
        self.cell = cell


class Ring(SpanError):
    """A cell with a formula whose value depends on itself."""

    def __init__(self, cell):
        SpanError.__init__(self, "Ring", f"the value at {cell} depends on itself")
        self.cell = cell


class Full(SpanError):
    """No place for more than `most`."""

    def __init__(self, most):
        SpanError.__init__(self, "Full", f"there is place for {most} only")
        self.most = most


class BadDeed(SpanError):
    """A list of deeds with a tuple that has not the form of a deed; `at` is its index."""

    def __init__(self, at):
        SpanError.__init__(self, "BadDeed", f"the item at {at} is not a deed")
        self.at = at


class BadName(SpanError):
    """A text that is not a name."""

    def __init__(self, name):
        SpanError.__init__(self, "BadName", f"{name} is not a name")
        self.name = name


class Taken(SpanError):
    """A name that a span has already."""

    def __init__(self, name):
        SpanError.__init__(self, "Taken", f"the name {name} is taken")
        self.name = name


class BadText(SpanError):
    """A text that writes nothing; `at` is the index of its first wrong part."""

    def __init__(self, at):
        SpanError.__init__(self, "BadText", f"the text is wrong at {at}")
        self.at = at


class NoName(LookupError):
    """A name that no span has."""

    def __init__(self, name):
        LookupError.__init__(self, f"there is no name {name}")
        self.word = "NoName"
        self.name = name


class NothingLeft(IndexError):
    """No step is left to undo or to redo."""

    def __init__(self):
        IndexError.__init__(self, "no step is left")
        self.word = "NothingLeft"
