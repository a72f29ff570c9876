"""The fewest commands that make a layout, and bounds that prove that fewer are not enough."""

from spanrows.pieces import first_label, is_open, label_in, new_labels, row_count


def is_wide(label):
    return label[1] - label[0] >= 2


def witnesses(layout):
    """A dict of the needed labels, each with two labels of new rows (before, after) that need it."""
    labels = new_labels(layout.pieces())
    # A label of a new row is its own witness, even where other rows need it too.
    found = {label: (label, label) for label in labels}
    for at, before in enumerate(labels):
        for after in labels[at + 1:]:
            if after[0] < before[1]:
                found.setdefault((after[0], before[1]), (before, after))
    return found


def needed_labels(layout):
    """The ascending list of the needed labels."""
    return sorted(witnesses(layout))


def is_break(before, after):
    """Whether the labels of two neighbouring rows of different pieces are a break; `before` may be None."""
    # Neighbouring old rows v and v + 1 are never met here: the normal form has them in one piece.
    if before is None:
        return after != (0, 0)
    return before[0] != after[0] and before[1] != after[1]


def breaks(layout):
    """The list of the breaks in the order of the rows."""
    found = []
    before = None
    for piece in layout.pieces():
        if piece[0] == "top":
            continue
        after = first_label(piece)
        if is_break(before, after):
            found.append((before, after))
        if not is_open(piece):
            before = label_in(piece, row_count(piece) - 1)
    return found


def number_of(layout, labels, pairs):
    """How many commands these needed labels and breaks, and the top rows of the layout, cost at least."""
    wide = [label for label in labels if is_wide(label)]
    return len(labels) + len(wide) + len(pairs) + (1 if layout.top > 0 else 0)


def fewest(layout):
    """The fewest commands of a script that makes a layout."""
    return number_of(layout, needed_labels(layout), breaks(layout))


def bound(layout):
    """A bound with the number of the fewest commands, all needed labels and all breaks."""
    found = witnesses(layout)
    entries = [(label, found[label][0], found[label][1]) for label in sorted(found)]
    return ("bound", fewest(layout), entries, breaks(layout))


def are_different(items):
    return len(set(items)) == len(items)


def is_entry(entry, places):
    """Whether an entry holds; `places` is a dict of the labels of the new rows and of their places in the layout."""
    label, before, after = entry
    if before not in places or after not in places or places[before] > places[after]:
        return False
    return label == (after[0], before[1]) and label[0] < label[1]


def check_bound(layout, claimed):
    """Whether a tuple is a bound of a layout."""
    word, number, entries, pairs = claimed
    labels = [entry[0] for entry in entries]
    if word != "bound" or not are_different(labels) or not are_different(pairs):
        return False
    places = {label: at for at, label in enumerate(new_labels(layout.pieces()))}
    if not all([is_entry(entry, places) for entry in entries]):
        return False
    found = breaks(layout)
    return all([pair in found for pair in pairs]) and number == number_of(layout, labels, pairs)
