"""Grids, grid scripts and boxes."""

import random
import unittest

from spanrows.errors import BadCommand, BadSpan, TooManyPieces
from spanrows.grids import (Grid, carried_box, check_grid_script, difference_box, fewest_grid, plan_grid, run_grid)
from spanrows.layouts import Layout
from spanrows.needs import fewest
from spanrows.scripts import run
from spanrows.spans import carried, is_span
from tests import model
from tests.test_layout import comb
from tests.test_scripts import comb_script
from tests.test_spans import NO_SPANS

GREAT = 10 ** 30 - 1
AXES = ("rows", "columns")
WRONG = [
    (), ("insert_rows",), ("insert_rows", 0), ("insert_rows", 0, 1, 1), ("insert_rows", -1, 1), ("insert_rows", 0, 0),
    ("insert_columns", 0, -1), ("insert_columns", "0", 1), ("insert_columns", 0, None), ("delete_rows", 0),
    ("delete_rows", -1, 0), ("delete_rows", 3, 2), ("delete_columns", 0, None), ("delete_columns", 3, 2),
    ("delete_columns", -2, -1), ("delete_columns", 0, 0, 0), ("insert", 0, 1), ("delete", 0, 1), ("insert_cells", 0, 1),
    ("Insert_rows", 0, 1), ("insert_row", 0, 1), ("move_rows", 0, 1), ("rows", 0, 1), ("", 0, 1), (0, 0, 1),
    (None, 0, 1), (0, 1), None, 5, "insert_rows", ["insert_rows", 0, 1],
]
RIGHT = [("insert_rows", 0, 1), ("insert_columns", GREAT, GREAT), ("delete_rows", 0, GREAT), ("delete_columns", 3, 3)]


def on_axis(script, axis):
    return [(f"{word}_{axis}", number, other) for word, number, other in script]


def shuffled(dice, rows, columns):
    """A grid script of two scripts, each in its order."""
    waiting = [on_axis(rows, "rows"), on_axis(columns, "columns")]
    script = []
    while any(waiting):
        script.append(dice.choice([some for some in waiting if some]).pop(0))
    return script


def random_grid(dice, most=3):
    return Grid(Layout(model.random_pieces(dice, most)), Layout(model.random_pieces(dice, most)))


class GridScripts(unittest.TestCase):
    def test_right(self):
        self.assertIsNone(check_grid_script([]))
        self.assertIsNone(check_grid_script(RIGHT))
        self.assertIsNone(check_grid_script(script=tuple(RIGHT)))

    def test_wrong_item_at_its_index(self):
        for item in WRONG:
            for ahead in ([], RIGHT):
                for call in (check_grid_script, run_grid):
                    for script in ([*ahead, item, ("insert_rows", 0, 1), ()], (*ahead, item, ())):
                        with self.assertRaises(BadCommand, msg=item) as caught:
                            call(script)
                        self.assertEqual(caught.exception.at, len(ahead))


class RunGrid(unittest.TestCase):
    def test_no_command(self):
        self.assertEqual(run_grid([]), Grid.plain())
        self.assertEqual(run_grid(()), Grid.plain())

    def test_single_commands(self):
        for axis, at in (("rows", 0), ("columns", 1)):
            for script in ([("insert", 2, 3)], [("insert", 0, 3)], [("delete", 2, 3)]):
                grid = run_grid(on_axis(script, axis))
                self.assertEqual((grid.rows, grid.columns)[at], run(script))
                self.assertEqual((grid.rows, grid.columns)[1 - at], Layout.plain())

    def test_each_axis_by_its_own_commands(self):
        dice = random.Random(41)
        for _ in range(200):
            rows, columns = model.random_script(dice, 6), model.random_script(dice, 6)
            script = shuffled(dice, rows, columns)
            kept = list(script)
            grid = run_grid(script)
            self.assertEqual(grid.rows.pieces(), model.pieces_of(model.run_rows(rows)))
            self.assertEqual(grid.columns.pieces(), model.pieces_of(model.run_rows(columns)))
            self.assertEqual(script, kept)
            self.assertEqual(run_grid(script=tuple(script)), grid)

    def test_too_many_pieces_of_either_axis(self):
        for axis in AXES:
            script = on_axis(comb_script(60), axis)
            self.assertEqual({len(run_grid(script).rows), len(run_grid(script).columns)}, {1, 60})
            with self.assertRaises(TooManyPieces) as caught:
                run_grid(on_axis(comb_script(61), axis))
            self.assertEqual(caught.exception.most, 60)
            with self.assertRaises(BadCommand) as caught:
                run_grid(on_axis(comb_script(61), axis) + [("insert_rows", 0, 0)])
            self.assertEqual(caught.exception.at, 60)
            grid = run_grid(on_axis(comb_script(200) + [("delete", 1, 500)], axis))
            self.assertEqual({len(grid.rows), len(grid.columns)}, {1, 2})


class CarriedBox(unittest.TestCase):
    def test_row_by_row_and_column_by_column(self):
        dice = random.Random(42)
        gone = 0
        for _ in range(150):
            rows, columns = model.random_script(dice, 6), model.random_script(dice, 6)
            grid = run_grid(shuffled(dice, rows, columns))
            for _ in range(20):
                box = tuple(dice.choice(list(model.small_spans(12))) for _ in range(2))
                expected = (model.carry_by_rows(rows, box[0]), model.carry_by_rows(columns, box[1]))
                expected = None if None in expected else expected
                self.assertEqual(carried_box(grid, box), expected, (rows, columns, box))
                gone += expected is None
        self.assertGreater(gone, 50)

    def test_gone_with_one_of_its_spans(self):
        grid = run_grid([("delete_rows", 2, 4), ("delete_columns", 5, 6), ("insert_rows", 2, 3)])
        for box in [((2, 4), (0, 1)), ((0, None), (5, 6)), ((3, 3), (5, 5)), ((3, 4), (0, None))]:
            self.assertIsNone(carried_box(grid, box))
        self.assertEqual(carried_box(grid=grid, box=((2, None), (5, None))), ((5, None), (5, None)))
        self.assertEqual(carried_box(grid, ((1, 5), (4, 7))), ((1, 5), (4, 5)))

    def test_no_spans(self):
        gone = run_grid([("delete_rows", 0, 4), ("delete_columns", 0, 4)])
        for grid in (Grid.plain(), gone):
            for span in NO_SPANS:
                for box in [(span, (0, 1)), ((0, 1), span), (span, span), (span, (5, None)), ((5, None), span)]:
                    with self.assertRaises(BadSpan):
                        carried_box(grid, box)


class DifferenceBox(unittest.TestCase):
    def assert_difference(self, one, other):
        found = difference_box(one, other)
        if one == other:
            self.assertIsNone(found)
            return
        self.assertIsInstance(found, tuple)
        rows, columns = found
        self.assertTrue(is_span(rows) and is_span(columns))
        self.assertNotEqual(carried_box(one, found), carried_box(other, found), (one, other))

    def test_none_exactly_for_equal_grids(self):
        dice = random.Random(43)
        for _ in range(200):
            one, other = random_grid(dice), random_grid(dice)
            self.assert_difference(one, other)
            self.assert_difference(one, Grid(one.rows, other.columns))
            self.assert_difference(one, Grid(other.rows, one.columns))
            self.assert_difference(one, Grid(Layout(one.rows.pieces()), Layout(one.columns.pieces())))

    def test_scripts_in_another_order_are_alike(self):
        one = run_grid([("insert_rows", 2, 1), ("delete_columns", 1, 1)])
        other = run_grid([("delete_columns", 1, 1), ("insert_rows", 2, 1)])
        self.assertIsNone(difference_box(one=one, other=other))

    def test_spans_that_are_gone(self):
        for axis in AXES:
            self.assert_difference(run_grid([(f"delete_{axis}", 2, 4)]), run_grid([(f"delete_{axis}", 2, 5)]))
            self.assert_difference(Grid.plain(), run_grid([(f"delete_{axis}", GREAT, GREAT)]))
            self.assert_difference(Grid.plain(), run_grid([(f"insert_{axis}", 0, 1)]))


class FewestGrid(unittest.TestCase):
    def test_sum_and_plan(self):
        dice = random.Random(44)
        for _ in range(100):
            rows, columns = model.random_pieces(dice, 5), model.random_pieces(dice, 5)
            grid = Grid(Layout(rows), Layout(columns))
            number = model.fewest_of(model.rows_of(rows)) + model.fewest_of(model.rows_of(columns))
            self.assertEqual(fewest_grid(grid), number)
            script = plan_grid(grid)
            self.assertIsInstance(script, list)
            self.assertIsNone(check_grid_script(script))
            self.assertEqual(len(script), number)
            self.assertEqual(run_grid(script), grid)

    def test_few(self):
        self.assertEqual(fewest_grid(Grid.plain()), 0)
        self.assertEqual(plan_grid(Grid.plain()), [])
        self.assertEqual(plan_grid(grid=run_grid([("delete_columns", 3, GREAT)])), [("delete_columns", 3, GREAT)])
        self.assertEqual(plan_grid(run_grid([("insert_rows", 0, GREAT)])), [("insert_rows", 0, GREAT)])
        grid = run_grid([("insert_rows", 2, 2), ("delete_rows", 2, 3), ("insert_columns", 0, 1)])
        self.assertEqual(fewest_grid(grid=grid), 1)

    def test_the_list_is_new(self):
        grid = run_grid([("insert_rows", 0, 2)])
        plan_grid(grid).clear()
        self.assertEqual(plan_grid(grid), [("insert_rows", 0, 2)])

    def test_sixty_pieces_on_both_axes(self):
        grid = Grid(Layout(comb(60)), Layout(comb(60)))
        self.assertEqual(fewest_grid(grid), 2 * fewest(Layout(comb(60))))
        self.assertEqual(run_grid(plan_grid(grid)), grid)


class Grids(unittest.TestCase):
    def test_rows_and_columns(self):
        rows, columns = run([("insert", 2, 1)]), run([("delete", 2, 5)])
        for grid in (Grid(rows, columns), Grid(columns=columns, rows=rows)):
            self.assertEqual((grid.rows, grid.columns), (rows, columns))
            with self.assertRaises(AttributeError):
                grid.rows = columns

    def test_plain(self):
        self.assertEqual(Grid.plain().rows, Layout.plain())
        self.assertEqual(Grid.plain().columns, Layout.plain())

    def test_equal(self):
        one, other = run([("insert", 2, 1)]), run([("delete", 2, 5)])
        self.assertEqual(Grid(one, other), Grid(run([("insert", 2, 1)]), run([("delete", 2, 5)])))
        for grid in (Grid(other, one), Grid(one, one), Grid(other, other), Grid.plain()):
            self.assertFalse(Grid(one, other) == grid)
            self.assertTrue(Grid(one, other) != grid)
        for thing in (one, other, (one, other), [one, other], None, 1, "Grid(3 x 2 pieces)"):
            self.assertFalse(Grid(one, other) == thing)
            self.assertTrue(Grid(one, other) != thing)

    def test_repr(self):
        self.assertEqual(repr(Grid.plain()), "Grid(1 x 1 pieces)")
        self.assertEqual(repr(Grid(run([("insert", 2, 1)]), Layout(comb(60)))), "Grid(3 x 60 pieces)")

    def test_carried_by_its_two_layouts(self):
        grid = run_grid([("insert_rows", 2, 1), ("delete_columns", 2, 5)])
        box = ((0, 4), (1, 9))
        self.assertEqual(carried_box(grid, box), (carried(grid.rows, box[0]), carried(grid.columns, box[1])))


if __name__ == "__main__":
    unittest.main()
