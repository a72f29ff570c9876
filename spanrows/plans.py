"""Plans: scripts with the fewest commands that make a layout."""

from spanrows.layouts import counts_of_labels
from spanrows.needs import breaks, is_wide, needed_labels
from spanrows.pieces import PLAIN, carried_by, first_row_from, starts_of
from spanrows.scripts import pieces_behind, run


def inner_first(labels):
    """The labels in an order in which each one comes behind all labels that it contains."""
    return sorted(labels, key=lambda label: (label[1], -label[0]))


def delete_between(pieces, low, high):
    """The command that deletes the rows below the last one with this low and above the first one with this high."""
    begin, end = carried_by(pieces, starts_of(pieces), (low + 1, high - 1))
    return ("delete", begin, end)


def insert_label(pieces, label, count):
    """The command that inserts rows below the last one with the low of a label."""
    return ("insert", first_row_from(pieces, starts_of(pieces), label[0] + 1), count)


def steps_of(layout):
    """Yields the commands of a script with the fewest commands that makes a layout."""
    # A wide label gets its place when the rows strictly within it are deleted. All needed labels within it have had
    # their turn by then, and the layout has no such row. A label whose turn comes later may share a low or a high with
    # a deleted row, but then the common part of both labels is needed too; it reaches the edge, so it is not deleted.
    counts = counts_of_labels([layout])
    pieces = list(PLAIN)
    for label in inner_first(needed_labels(layout)):
        if is_wide(label):
            command = delete_between(pieces, label[0], label[1])
            pieces = pieces_behind([command], pieces)
            yield command
        command = insert_label(pieces, label, counts.get(label, 1))
        pieces = pieces_behind([command], pieces)
        yield command
    # Now all rows of the layout with labels are there; the other ones stand where its breaks are, and in each of them.
    for before, after in breaks(layout):
        command = delete_between(pieces, -1 if before is None else before[0], after[1])
        pieces = pieces_behind([command], pieces)
        yield command
    if layout.top > 0:
        yield ("insert", 0, layout.top)


def plan(layout):
    """The list of the commands of a script with the fewest commands that makes a layout."""
    return list(steps_of(layout))


def shortened(script):
    """A script with the fewest commands that is alike."""
    return plan(run(script))
