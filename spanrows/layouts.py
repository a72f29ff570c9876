"""Layouts: the rows that a script makes, with their labels."""

from spanrows.errors import BadPieces, BadRow, BadText, Clash, TooManyPieces
from spanrows.pieces import (PLAIN, common_ranges, first_wrong, followed, label_at, new_labels, normal_form,
                             old_ranges, piece_text, read_piece, row_of_old, starts_of, woven)


class Layout:
    """A layout, made of pieces that need not be in normal form. It never changes."""

    LIMIT = 60

    def __init__(self, pieces):
        wrong = first_wrong(pieces)
        if wrong is not None:
            raise BadPieces(wrong)
        parts = normal_form(pieces)
        if len(parts) > Layout.LIMIT:
            raise TooManyPieces(Layout.LIMIT)
        self.parts = parts
        self.starts = starts_of(parts)

    @classmethod
    def plain(cls):
        """The layout of the untouched sheet."""
        return cls(PLAIN)

    @classmethod
    def read(cls, text):
        """The layout that a text writes."""
        written = [read_piece(piece) for piece in text.split("; ")]
        if None in written:
            raise BadText(written.index(None))
        try:
            layout = cls(written)
        except BadPieces as wrong:
            raise BadText(wrong.at) from None
        except TooManyPieces as many:
            raise BadText(many.most) from None
        for at, piece in enumerate(layout.pieces()):
            if piece != written[at]:
                raise BadText(at)
        return layout

    @property
    def top(self):
        """The number of top rows."""
        return self.parts[0][1] if self.parts[0][0] == "top" else 0

    @property
    def tail(self):
        """The old row with which the last piece begins."""
        return self.parts[-1][1]

    @property
    def shift(self):
        """By how much the number of the row of the tail is greater than the tail."""
        return self.starts[-1] - self.parts[-1][1]

    def pieces(self):
        """The list of the pieces in normal form."""
        return list(self.parts)

    def row(self, number):
        """The label of a row, or None for a top row."""
        if number < 0:
            raise BadRow(number)
        return label_at(self.parts, self.starts, number)

    def where(self, old):
        """The number of the row of an old row, or None if it is deleted."""
        if old < 0:
            raise BadRow(old)
        return row_of_old(self.parts, self.starts, old)

    def __eq__(self, other):
        return isinstance(other, Layout) and self.parts == other.parts

    def __len__(self):
        return len(self.parts)

    def __repr__(self):
        return f"Layout({len(self.parts)} pieces)"

    def __str__(self):
        return "; ".join([piece_text(piece) for piece in self.parts])


def labels_of(layout, first, last):
    """Yields the labels of the rows from first to last."""
    if first < 0:
        raise BadRow(first)
    for number in range(first, last + 1):
        yield layout.row(number)


def composed(*layouts):
    """The layout of scripts with these layouts, one behind the other."""
    pieces = list(PLAIN)
    for layout in layouts:
        pieces = followed(pieces, layout.pieces())
    return Layout(pieces)


def is_within(label, other):
    return other[0] < label[0] and label[1] < other[1]


def clash(one, other):
    """The first labels of new rows of two layouts of which one lies within the other one, or None."""
    seconds = new_labels(other.pieces())
    at = 0
    for label in new_labels(one.pieces()):
        # A second label that is greater neither in low nor in high stays so for all later labels: it clashes with none.
        while at < len(seconds) and seconds[at][0] <= label[0] and seconds[at][1] <= label[1]:
            at += 1
        if at == len(seconds):
            return None
        # If this one does not clash, it is less neither in low nor in high, and neither are those behind it.
        if is_within(label, seconds[at]) or is_within(seconds[at], label):
            return (label, seconds[at])
    return None


def check_clashes(layouts):
    for at, one in enumerate(layouts):
        for other in layouts[at + 1:]:
            found = clash(one, other)
            if found is not None:
                raise Clash(found[0], found[1])


def counts_of_labels(layouts):
    """A dict of the labels of the new rows of all layouts and of how many rows have them."""
    counts = {}
    for layout in layouts:
        for piece in layout.pieces():
            if piece[0] == "new":
                label = (piece[1], piece[2])
                counts[label] = counts.get(label, 0) + piece[3]
    return counts


def merged(*layouts):
    """The layout with the changes of several users who began with one sheet."""
    check_clashes(layouts)
    ranges = old_ranges(PLAIN)
    for layout in layouts:
        ranges = common_ranges(ranges, old_ranges(layout.pieces()))
    top = sum([layout.top for layout in layouts])
    ahead = [("top", top)] if top > 0 else []
    return Layout(ahead + woven(ranges, counts_of_labels(layouts)))
