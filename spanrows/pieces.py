"""Pieces, the tuples that write a layout, and their texts.

The functions here work on lists of pieces of any length, since layouts on the way to a result may have
more pieces than a Layout. `starts` is always the list of the row numbers at which the pieces begin.
"""

PLAIN = (("old", 0, None),)
MOST_DIGITS = 18


def is_number(value):
    # Python counts True and False among the integers, the document does not.
    return isinstance(value, int) and not isinstance(value, bool)


def are_numbers(values, many):
    return len(values) == many and all([is_number(value) for value in values])


def is_range(pair):
    """Whether a value is a tuple (first, last) with 0 <= first <= last, or (first, None) with first >= 0."""
    if not isinstance(pair, tuple) or len(pair) != 2:
        return False
    first, last = pair
    if not is_number(first) or first < 0:
        return False
    return last is None or (is_number(last) and first <= last)


def is_piece(piece):
    if not isinstance(piece, tuple) or len(piece) == 0:
        return False
    word, rest = piece[0], piece[1:]
    if word == "top":
        return are_numbers(rest, 1) and rest[0] >= 1
    if word == "old":
        return is_range(rest)
    if word == "new":
        return are_numbers(rest, 3) and 0 <= rest[0] < rest[1] and rest[2] >= 1
    return False


def is_open(piece):
    return piece[0] == "old" and piece[2] is None


def may_follow(before, piece):
    """Whether a piece may stand directly behind another one."""
    if is_open(before):
        return False
    if before[0] == "top":
        return True
    if piece[0] == "top":
        return False
    if before[0] == "old" and piece[0] == "old":
        return before[2] < piece[1]
    # Labels never decrease, so the last label before this piece is the greatest one.
    above = label_in(before, row_count(before) - 1)
    label = first_label(piece)
    return above[0] <= label[0] and above[1] <= label[1]


def first_wrong(pieces):
    """The index of the first piece that no layout has there, the number of pieces if the end is missing, or None."""
    before = None
    for at, piece in enumerate(pieces):
        if not is_piece(piece):
            return at
        if before is not None and not may_follow(before, piece):
            return at
        before = piece
    if before is None or not is_open(before):
        return len(pieces)
    return None


def joined(one, other):
    """One piece with the rows of two neighbouring ones, or None if the normal form keeps them apart."""
    if one[0] != other[0]:
        return None
    if one[0] == "top":
        return ("top", one[1] + other[1])
    if one[0] == "old":
        return ("old", one[1], other[2]) if one[2] + 1 == other[1] else None
    if one[1:3] == other[1:3]:
        return ("new", one[1], one[2], one[3] + other[3])
    return None


def normal_form(pieces):
    result = []
    for piece in pieces:
        both = joined(result[-1], piece) if result else None
        if both is None:
            result.append(piece)
        else:
            result[-1] = both
    return result


def row_count(piece):
    """The number of rows of a piece that is not open."""
    if piece[0] == "old":
        return piece[2] - piece[1] + 1
    return piece[-1]


def starts_of(pieces):
    starts = [0]
    for piece in pieces[:-1]:
        starts.append(starts[-1] + row_count(piece))
    return starts


def index_of_row(starts, number):
    """The index of the piece with a row: the last piece that begins there or before."""
    low, high = 0, len(starts)
    while high - low > 1:
        middle = (low + high) // 2
        if starts[middle] <= number:
            low = middle
        else:
            high = middle
    return low


def label_in(piece, offset):
    """The label of a row of a piece, counted from 0 within the piece, or None for a top row."""
    if piece[0] == "top":
        return None
    if piece[0] == "old":
        return (piece[1] + offset, piece[1] + offset)
    return (piece[1], piece[2])


def first_label(piece):
    return label_in(piece, 0)


def label_at(pieces, starts, number):
    index = index_of_row(starts, number)
    return label_in(pieces[index], number - starts[index])


def row_of_old(pieces, starts, old):
    """The number of the row of an old row, or None if the pieces do not have it."""
    for start, piece in zip(starts, pieces):
        if piece[0] == "old" and piece[1] <= old and (piece[2] is None or old <= piece[2]):
            return start + old - piece[1]
    return None


def first_row_from(pieces, starts, low):
    """The first row whose label has at least this low."""
    for start, piece in zip(starts, pieces[:-1]):
        if piece[0] == "new" and piece[1] >= low:
            return start
        if piece[0] == "old" and piece[2] >= low:
            return start + max(0, low - piece[1])
    return starts[-1] + max(0, low - pieces[-1][1])


def last_row_up_to(pieces, starts, high):
    """The last row whose label has at most this high, or -1 if there is none."""
    found = -1
    for start, piece in zip(starts, pieces):
        if piece[0] == "new" and piece[2] <= high:
            found = start + piece[3] - 1
        if piece[0] == "old" and piece[1] <= high:
            found = start + lesser(high, piece[2]) - piece[1]
    return found


def carried_by(pieces, starts, span):
    """The span to which pieces carry a span of the untouched sheet, or None if it is gone."""
    first, last = span
    begin = first_row_from(pieces, starts, first)
    if last is None:
        return (begin, None)
    end = last_row_up_to(pieces, starts, last)
    return (begin, end) if begin <= end else None


def first_rows(piece, many):
    """The piece with only its first rows, at least one."""
    if piece[0] == "old":
        return ("old", piece[1], piece[1] + many - 1)
    return piece[:-1] + (many,)


def without_first_rows(piece, many):
    """The piece without its first rows; at least one row is left."""
    if piece[0] == "old":
        return ("old", piece[1] + many, piece[2])
    return piece[:-1] + (piece[-1] - many,)


def part(pieces, starts, first, last):
    """The pieces of the rows from first to last, or of all rows from first on if last is None."""
    begin = index_of_row(starts, first)
    end = len(pieces) - 1 if last is None else index_of_row(starts, last)
    result = list(pieces[begin:end + 1])
    # The end is cut first: both cuts may meet the same piece, and this one counts from its beginning.
    if last is not None:
        result[-1] = first_rows(result[-1], last - starts[end] + 1)
    result[0] = without_first_rows(result[0], first - starts[begin])
    return result


def renamed(pieces, starts, piece):
    """A piece of new rows whose label means rows of these pieces, with the label that it has in the result."""
    above = label_at(pieces, starts, piece[1])
    if above is None:
        return ("top", piece[3])
    below = label_at(pieces, starts, piece[2])
    return ("new", above[0], below[1], piece[3])


def followed(first, second):
    """The pieces of a second layout that is applied behind a first one."""
    starts = starts_of(first)
    result = []
    for piece in second:
        if piece[0] == "old":
            result.extend(part(first, starts, piece[1], piece[2]))
        elif piece[0] == "new":
            result.append(renamed(first, starts, piece))
        else:
            result.append(piece)
    return normal_form(result)


def new_labels(pieces):
    return [(piece[1], piece[2]) for piece in pieces if piece[0] == "new"]


def old_ranges(pieces):
    return [(piece[1], piece[2]) for piece in pieces if piece[0] == "old"]


def lesser(one, other):
    """The lesser one of two ends of ranges, where None means that there is no end."""
    if one is None:
        return other
    if other is None:
        return one
    return min(one, other)


def common_ranges(ones, others):
    """The ranges of the numbers that are in both of two ascending lists of ranges, the last ones without an end."""
    result = []
    at = beside = 0
    while at < len(ones):
        first = max(ones[at][0], others[beside][0])
        last = lesser(ones[at][1], others[beside][1])
        if last is None or first <= last:
            result.append((first, last))
        if last == ones[at][1]:
            at += 1
        else:
            beside += 1
    return result


def woven(ranges, counts):
    """The pieces of old rows, given by ranges, and of new rows, given by a dict of labels and counts."""
    # No range reaches over the place of a new row: the layout with this row has its old rows in pieces on both sides.
    olds = [("old", first, last) for first, last in ranges]
    fresh = [("new", label[0], label[1], counts[label]) for label in counts]
    return sorted(olds + fresh, key=first_label)


def piece_text(piece):
    if piece[0] == "top":
        return f"top {piece[1]}"
    if piece[0] == "new":
        return f"new {piece[1]}-{piece[2]} x{piece[3]}"
    if piece[2] is None:
        return f"old {piece[1]}-"
    if piece[1] == piece[2]:
        return f"old {piece[1]}"
    return f"old {piece[1]}-{piece[2]}"


def read_number(text):
    """The number that a text writes, or None if it writes none."""
    if not text.isdigit() or len(text) > MOST_DIGITS:
        return None
    if text[0] == "0" and text != "0":
        return None
    return int(text)


def read_top(text):
    count = read_number(text)
    return None if count is None else ("top", count)


def read_old(text):
    begin, dash, end = text.partition("-")
    first = read_number(begin)
    if first is None:
        return None
    if dash == "":
        return ("old", first, first)
    if end == "":
        return ("old", first, None)
    last = read_number(end)
    # One row is written as one number, so two equal numbers write nothing.
    if last is None or last == first:
        return None
    return ("old", first, last)


def read_new(label, times):
    low, dash, high = label.partition("-")
    numbers = (read_number(low), read_number(high), read_number(times[1:]))
    if times[:1] != "x" or None in numbers:
        return None
    return ("new",) + numbers


def read_piece(text):
    """The piece that a text writes, or None if it writes none; whether a layout may have it is not asked here."""
    word, *rest = text.split(" ")
    if word == "top" and len(rest) == 1:
        return read_top(rest[0])
    if word == "old" and len(rest) == 1:
        return read_old(rest[0])
    if word == "new" and len(rest) == 2:
        return read_new(rest[0], rest[1])
    return None
