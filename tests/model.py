"""A slow model of the document: sheets of few rows, followed row by row, and lists of rows for layouts.

Nothing here uses the package. A row of a model is its label (low, high), or None for a top row.
"""

import itertools

WINDOW = 60


def old_row(number):
    return (number, number)


def is_new(label):
    return label is not None and label[0] < label[1]


def run_rows(script, rows=None):
    """The first rows behind a script by [3] and [5]. Scripts must stay well within the window."""
    rows = [old_row(number) for number in range(WINDOW)] if rows is None else list(rows)
    for word, number, other in script:
        if word == "insert":
            above = rows[number - 1] if number > 0 else None
            label = None if above is None else (above[0], rows[number][1])
            rows[number:number] = [label] * other
        else:
            del rows[number:other + 1]
    return rows


def carry_by_rows(script, span):
    """What a script makes of a span by [4]: each row of the sheet knows whether it belongs to the span."""
    first, last = span
    inside = [number >= first and (last is None or number <= last) for number in range(WINDOW)]
    for word, number, other in script:
        if word == "insert":
            belongs = number > 0 and inside[number - 1] and inside[number]
            inside[number:number] = [belongs] * other
        else:
            del inside[number:other + 1]
    return span_of(inside, last is None)


def carry_by_labels(rows, span):
    """What a layout makes of a span by [5]."""
    first, last = span
    inside = [label is not None and first <= label[0] and (last is None or label[1] <= last) for label in rows]
    return span_of(inside, last is None)


def span_of(inside, is_open):
    members = [number for number, belongs in enumerate(inside) if belongs]
    if not members:
        return None
    assert members == list(range(members[0], members[-1] + 1))
    if is_open:
        assert members[-1] == len(inside) - 1
        return (members[0], None)
    return (members[0], members[-1])


def rows_of(pieces, window=WINDOW):
    """The rows that pieces write, with the old rows below the window."""
    rows = []
    for piece in pieces:
        if piece[0] == "top":
            rows += [None] * piece[1]
        elif piece[0] == "new":
            rows += [(piece[1], piece[2])] * piece[3]
        else:
            last = window - 1 if piece[2] is None else piece[2]
            rows += [old_row(number) for number in range(piece[1], last + 1)]
    return rows


def rows_allowed(rows):
    """Whether a sequence of rows can begin a layout by [7]."""
    labels = [label for label in rows if label is not None]
    if rows != [None] * (len(rows) - len(labels)) + labels:
        return False
    for one, other in zip(labels, labels[1:]):
        if one[0] > other[0] or one[1] > other[1]:
            return False
    olds = [label for label in labels if not is_new(label)]
    return len(olds) == len(set(olds))


def pieces_of(rows):
    """The normal form by [8], of rows that end with old rows of the window."""
    pieces = []
    for label, group in itertools.groupby(rows):
        many = len(list(group))
        if label is None:
            pieces.append(("top", many))
        elif is_new(label):
            pieces.append(("new", label[0], label[1], many))
        elif pieces and pieces[-1][0] == "old" and pieces[-1][2] == label[0] - 1:
            pieces[-1] = ("old", pieces[-1][1], label[0])
        else:
            pieces.append(("old", label[0], label[0]))
    pieces[-1] = ("old", pieces[-1][1], None)
    return pieces


def compose_rows(first, second):
    """[9], row by row."""
    result = []
    for label in second:
        if label is None or first[label[0]] is None:
            result.append(None)
        elif is_new(label):
            result.append((first[label[0]][0], first[label[1]][1]))
        else:
            result.append(first[label[0]])
    return result


def label_within(label, other):
    return label[0] > other[0] and label[1] < other[1]


def first_clash(one, other):
    for label in filter(is_new, one):
        for second in filter(is_new, other):
            if label_within(label, second) or label_within(second, label):
                return (label, second)
    return None


def merge_rows(several):
    """[10], row by row, for rows that do not clash."""
    top = sum(rows.count(None) for rows in several)
    fresh = [label for rows in several for label in rows if is_new(label)]
    olds = [old_row(number) for number in range(WINDOW) if all(old_row(number) in rows for rows in several)]
    return [None] * top + sorted(fresh + olds)


def random_script(dice, most_commands, reach=8):
    script = []
    for _ in range(dice.randrange(most_commands + 1)):
        if dice.randrange(2):
            script.append(("insert", dice.randrange(reach), dice.randrange(1, 4)))
        else:
            first = dice.randrange(reach)
            script.append(("delete", first, first + dice.randrange(3)))
    return script


def random_pieces(dice, most_pieces=8):
    """Pieces by [7], not always in normal form."""
    pieces = [("top", dice.randrange(1, 4)) for _ in range(dice.choice([0, 0, 1, 2]))]
    low = high = 0
    for _ in range(dice.randrange(most_pieces)):
        if dice.randrange(3):
            low += dice.choice([0, 0, 0, 1, 2])
            high = max(high + dice.choice([0, 0, 1, 2, 4]), low + 1)
            pieces.append(("new", low, high, dice.randrange(1, 4)))
        else:
            first = high + dice.choice([0, 0, 1])
            last = first + dice.choice([0, 0, 1, 2])
            pieces.append(("old", first, last))
            # The next row is old again or has a label that begins at this row.
            low, high = last, last + 1
    pieces.append(("old", high + dice.choice([0, 0, 1]), None))
    return pieces


def small_spans(reach):
    """All spans of the first rows, and the open ones."""
    for first in range(reach):
        yield (first, None)
        for last in range(first, reach):
            yield (first, last)


def needed_of(rows):
    """The needed labels by [11]: all pairs of new rows p and q with labels, where p is q or comes before q."""
    fresh = [label for label in rows if is_new(label)]
    return sorted({(fresh[q][0], fresh[p][1]) for p in range(len(fresh)) for q in range(p, len(fresh))
                   if fresh[q][0] < fresh[p][1]})


def breaks_of(rows):
    """The breaks by [12], from row to row."""
    labels = [label for label in rows if label is not None]
    found = [] if labels[0] == (0, 0) else [(None, labels[0])]
    for one, other in zip(labels, labels[1:]):
        both_old = not is_new(one) and not is_new(other)
        if one[0] != other[0] and one[1] != other[1] and not (both_old and other[0] == one[0] + 1):
            found.append((one, other))
    return found


def fewest_of(rows):
    """The number of [13]."""
    needed = needed_of(rows)
    return len(needed) + sum(high - low >= 2 for low, high in needed) + len(breaks_of(rows)) + (None in rows)


def many_labels(dice, most=59):
    """Pieces with up to `most` labels of new rows that overlap each other, with and without top rows and old rows."""
    pieces = [("top", dice.randrange(1, 9))] if dice.randrange(2) else []
    low, high = 0, dice.randrange(2, 20)
    if dice.randrange(2):
        pieces.append(("old", 0, 0))
    while len(pieces) < most:
        pieces.append(("new", low, high, dice.randrange(1, 9)))
        rise, lift = dice.choice([(0, 1), (1, 0), (1, 1), (2, 1), (1, 2), (0, 3)])
        low, high = low + rise, max(high + lift, low + rise + 1)
    return pieces + [("old", high + dice.randrange(2), None)]


def moved_number(command, number):
    """Where a command puts a row, or None if it deletes it, by [3]."""
    rows = list(range(WINDOW))
    word, first, other = command
    if word == "insert":
        rows[first:first] = [None] * other
    else:
        del rows[first:other + 1]
    return rows.index(number) if number in rows else None


class Cells:
    """A slow model of the sheets of [16]: every command is followed row by row or column by column at its time."""

    def __init__(self):
        self.contents = {}

    def apply(self, command):
        word, axis = command[0].split("_")
        plain = (word, command[1], command[2])
        at = ("rows", "columns").index(axis)
        moved = {}
        for cell, content in self.contents.items():
            number = moved_number(plain, cell[at])
            if number is not None:
                place = list(cell)
                place[at] = number
                moved[tuple(place)] = self.followed(content, plain, at)
        self.contents = moved

    def followed(self, content, plain, at):
        if isinstance(content, int) or content[1] is None:
            return content
        box = list(content[1])
        box[at] = carry_by_rows([plain], box[at])
        return (content[0], None if box[at] is None else tuple(box))

    def value(self, cell, path=()):
        """The value, or a tuple ("Gone" or "Ring", cell) for what is met first."""
        content = self.contents.get(cell)
        if not isinstance(content, tuple):
            return content
        kind, box = content
        if box is None:
            return ("Gone", cell)
        values = []
        for other in sorted(self.contents):
            if all(first <= number and (last is None or number <= last) for number, (first, last) in zip(other, box)):
                found = ("Ring", other) if other in path + (cell,) else self.value(other, path + (cell,))
                if isinstance(found, tuple):
                    return found
                if found is not None:
                    values.append(found)
        return {"sum": sum, "count": len, "least": lambda some: min(some, default=None),
                "most": lambda some: max(some, default=None)}[kind](values)
