"""Grids: a layout for the rows and one for the columns."""

from spanrows.errors import BadCommand
from spanrows.layouts import Layout
from spanrows.needs import fewest
from spanrows.plans import plan
from spanrows.scripts import is_command, run
from spanrows.spans import carried, difference

WORDS = ("insert_rows", "delete_rows", "insert_columns", "delete_columns")
# No open span is ever gone, so a box with this one is gone only if its other span is.
ALL_ROWS = (0, None)


class Grid:
    """A grid of two layouts. It never changes."""

    def __init__(self, rows, columns):
        self.row_layout = rows
        self.column_layout = columns

    @classmethod
    def plain(cls):
        """The grid of the untouched sheet."""
        return cls(Layout.plain(), Layout.plain())

    @property
    def rows(self):
        """The layout of the rows."""
        return self.row_layout

    @property
    def columns(self):
        """The layout of the columns."""
        return self.column_layout

    def __eq__(self, other):
        return (isinstance(other, Grid) and self.row_layout == other.row_layout
                and self.column_layout == other.column_layout)

    def __repr__(self):
        return f"Grid({len(self.row_layout)} x {len(self.column_layout)} pieces)"


def without_axis(item):
    """The command of a grid command: `insert_rows` and `insert_columns` become `insert`."""
    return (item[0].partition("_")[0],) + item[1:]


def is_grid_command(item):
    if not isinstance(item, tuple) or len(item) == 0 or item[0] not in WORDS:
        return False
    return is_command(without_axis(item))


def check_grid_script(script):
    """Raises BadCommand for the first item that is not a grid command."""
    for at, item in enumerate(script):
        if not is_grid_command(item):
            raise BadCommand(at)


def axis_script(script, axis):
    """The commands of a grid script for one axis, `rows` or `columns`."""
    return [without_axis(item) for item in script if item[0].endswith(axis)]


def run_grid(script):
    """The grid behind a script."""
    check_grid_script(script)
    return Grid(run(axis_script(script, "rows")), run(axis_script(script, "columns")))


def carried_box(grid, box):
    """The box to which a grid carries a box of the untouched sheet, or None if it is gone."""
    rows = carried(grid.rows, box[0])
    columns = carried(grid.columns, box[1])
    return None if rows is None or columns is None else (rows, columns)


def difference_box(one, other):
    """A box that two grids carry unlike, or None if there is none."""
    rows = difference(one.rows, other.rows)
    if rows is not None:
        return (rows, ALL_ROWS)
    columns = difference(one.columns, other.columns)
    return None if columns is None else (ALL_ROWS, columns)


def fewest_grid(grid):
    """The fewest grid commands that make a grid."""
    return fewest(grid.rows) + fewest(grid.columns)


def with_axis(script, axis):
    return [(f"{word}_{axis}", number, other) for word, number, other in script]


def plan_grid(grid):
    """A script with the fewest grid commands that makes a grid."""
    return with_axis(plan(grid.rows), "rows") + with_axis(plan(grid.columns), "columns")
