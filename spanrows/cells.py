"""Cells: a sheet with numbers and formulas that follow grid commands."""

from spanrows.errors import BadCell, BadContent, Full, Gone, Ring
from spanrows.grids import axis_script, check_grid_script
from spanrows.pieces import PLAIN, are_numbers, carried_by, is_number, row_of_old, starts_of
from spanrows.scripts import pieces_behind
from spanrows.spans import is_span

KINDS = ("sum", "count", "least", "most")


def check_cell(cell):
    if not isinstance(cell, tuple) or not are_numbers(cell, 2) or min(cell) < 0:
        raise BadCell()


def is_box(box):
    return isinstance(box, tuple) and len(box) == 2 and is_span(box[0]) and is_span(box[1])


def is_content(content):
    if not isinstance(content, tuple):
        return is_number(content)
    return len(content) == 2 and content[0] in KINDS and (content[1] is None or is_box(content[1]))


def with_item(pair, at, item):
    """The pair with another item at an index, 0 or 1."""
    return (item, pair[1]) if at == 0 else (pair[0], item)


def moved_content(content, pieces, starts, axis):
    """The content behind commands for one axis, 0 for rows and 1 for columns."""
    if not isinstance(content, tuple) or content[1] is None:
        return content
    kind, box = content
    span = carried_by(pieces, starts, box[axis])
    return (kind, None if span is None else with_item(box, axis, span))


def moved_contents(contents, pieces, axis):
    """The dict of contents behind commands for one axis, whose pieces are given."""
    starts = starts_of(pieces)
    result = {}
    for cell in contents:
        place = row_of_old(pieces, starts, cell[axis])
        if place is not None:
            result[with_item(cell, axis, place)] = moved_content(contents[cell], pieces, starts, axis)
    return result


def is_inside(span, number):
    return span[0] <= number and (span[1] is None or number <= span[1])


def cells_of_box(contents, box):
    """The ascending list of the cells of a box that have contents."""
    rows, columns = box
    return [cell for cell in sorted(contents) if is_inside(rows, cell[0]) and is_inside(columns, cell[1])]


def summary(kind, numbers):
    """What a formula of a kind makes of the values that are not None."""
    if kind == "sum":
        return sum(numbers)
    if kind == "count":
        return len(numbers)
    return min(numbers, default=None) if kind == "least" else max(numbers, default=None)


def computed(contents, cell, known, working):
    """The value of a cell. `known` collects the values of other cells, `working` has the cells on the way to this."""
    content = contents.get(cell)
    if not isinstance(content, tuple):
        return content
    kind, box = content
    if box is None:
        raise Gone(cell)
    inner = cells_of_box(contents, box)
    working[cell] = True
    for other in inner:
        if other in working:
            raise Ring(other)
        if other not in known:
            known[other] = computed(contents, other, known, working)
    del working[cell]
    return summary(kind, [known[other] for other in inner if known[other] is not None])


class Sheet:
    """A sheet with contents at some cells."""

    LIMIT = 100

    def __init__(self):
        self.contents = {}

    def put(self, cell, content):
        """Gives a cell a number or a formula."""
        check_cell(cell)
        if not is_content(content):
            raise BadContent()
        if cell not in self.contents and len(self.contents) >= Sheet.LIMIT:
            raise Full(Sheet.LIMIT)
        self.contents[cell] = content

    def erase(self, cell):
        """Removes the contents of a cell, if there are any."""
        check_cell(cell)
        if cell in self.contents:
            del self.contents[cell]

    def content(self, cell):
        """The contents of a cell, or None."""
        check_cell(cell)
        return self.contents.get(cell)

    def cells(self):
        """The ascending list of the cells with contents."""
        return sorted(self.contents)

    def value(self, cell):
        """The value of a cell, or None."""
        check_cell(cell)
        return computed(self.contents, cell, {}, {})

    def apply(self, command):
        """Changes the sheet by a grid command."""
        self.apply_all([command])

    def apply_all(self, script):
        """Changes the sheet by a script of grid commands."""
        check_grid_script(script)
        # Rows and columns do not touch each other, so all commands for the one may come before those for the other.
        rows = pieces_behind(axis_script(script, "rows"), PLAIN)
        columns = pieces_behind(axis_script(script, "columns"), PLAIN)
        self.contents = moved_contents(moved_contents(self.contents, rows, 0), columns, 1)

    def twin(self):
        """An independent sheet with the same contents."""
        other = Sheet()
        other.contents = {cell: self.contents[cell] for cell in self.contents}
        return other

    def __eq__(self, other):
        return isinstance(other, Sheet) and self.contents == other.contents

    def __len__(self):
        return len(self.contents)

    def __repr__(self):
        return f"Sheet({len(self.contents)} cells)"
