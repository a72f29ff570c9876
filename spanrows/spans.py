"""Spans, and what layouts make of them."""

from spanrows.errors import BadSpan
from spanrows.pieces import carried_by, first_label, is_range, new_labels, old_ranges


def is_span(span):
    """Whether a pair is a span."""
    return is_range(span)


def check_span(span):
    if not is_span(span):
        raise BadSpan()


def carried(layout, span):
    """The span to which a layout carries a span of the untouched sheet, or None if it is gone."""
    check_span(span)
    return carried_by(layout.parts, layout.starts, span)


def firsts_carried_to(layout, row):
    """The least and the greatest first row of the spans that are carried to spans from a row on, or None."""
    label = layout.row(row)
    if label is None:
        return None
    above = layout.row(row - 1) if row > 0 else None
    least = 0 if above is None else above[0] + 1
    return (least, label[0]) if least <= label[0] else None


def lasts_carried_to(layout, row):
    """The least and the greatest last row of the spans that are carried to spans up to a row with a label, or None."""
    low = layout.row(row)[1]
    high = layout.row(row + 1)[1] - 1
    return (low, high) if low <= high else None


def sources(layout, span):
    """The spans of the untouched sheet that a layout carries to a span, or None if there are none."""
    check_span(span)
    first, last = span
    firsts = firsts_carried_to(layout, first)
    if firsts is None:
        return None
    if last is None:
        return (firsts, None)
    lasts = lasts_carried_to(layout, last)
    return None if lasts is None else (firsts, lasts)


def is_difference(one, other, claimed):
    """Whether a tuple is a span that two layouts carry unlike."""
    return is_span(claimed) and carried(one, claimed) != carried(other, claimed)


def turning_points(layout):
    """The old numbers in the pieces of a layout, each with the next one."""
    pairs = old_ranges(layout.pieces()) + new_labels(layout.pieces())
    return [number + step for pair in pairs for number in pair if number is not None for step in (0, 1)]


def difference(one, other):
    """A span that two layouts carry unlike, or None if there is none."""
    # The open spans show the top rows and all lows, and then the spans from row 0 on show all highs. Between turning
    # points the ends of carried spans stand still or move by one row for each row, so the turning points are enough.
    numbers = sorted(set(turning_points(one) + turning_points(other)))
    for claimed in [(number, None) for number in numbers] + [(0, number) for number in numbers]:
        if is_difference(one, other, claimed):
            return claimed
    return None


def gone_spans(layout):
    """The ascending list of the widest gone spans."""
    spans = []
    above = most = -1
    for piece in layout.pieces():
        if piece[0] == "top":
            continue
        low, high = first_label(piece)
        # A span that begins behind the low above, but not behind this low, has no row ahead of this one. So it is
        # gone if it ends before this high. If it ends where an earlier one ends, it is part of that one.
        begin, end = above + 1, high - 1
        if begin <= low and begin <= end and most < end:
            spans.append((begin, end))
            most = end
        above = low if piece[0] == "new" else piece[2]
    return spans
