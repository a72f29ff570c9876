"""The same scripts far down and with great counts: the answers are those of near rows, and as quick."""

import random
import unittest

from spanrows.cells import Sheet
from spanrows.grids import Grid, carried_box, difference_box, fewest_grid, plan_grid, run_grid
from spanrows.layouts import Layout
from spanrows.needs import bound, breaks, check_bound, fewest, needed_labels
from spanrows.plans import plan, shortened
from spanrows.scripts import run
from tests import model
from tests.test_cells import contents_of, random_content, random_grid_script
from tests.test_grids import shuffled

# Numbers from NEAR // 2 on are numbers of rows, and smaller ones are counts.
NEAR = 1000
FAR = (10 ** 18, 10 ** 27 + 7, 10 ** 30 - 10 ** 6)
COUNT = 10 ** 22 - 1


def moved(value, by):
    """The value with all numbers of rows moved down."""
    if isinstance(value, (tuple, list)):
        return value.__class__([moved(item, by) for item in value])
    if isinstance(value, int) and value >= NEAR // 2:
        return value + by
    return value


def near(script):
    return [(word, number + NEAR, other + NEAR if word.startswith("delete") else other)
            for word, number, other in script]


def with_great_counts(script):
    """Inserts only, from the last one to the first one, each with another great count."""
    places = sorted({number for word, number, other in script}, reverse=True)
    return [("insert", number, COUNT - number) for number in places]


def box_near(content):
    if isinstance(content, int) or content[1] is None:
        return content
    spans = [(first + NEAR, None if last is None else last + NEAR) for first, last in content[1]]
    return (content[0], tuple(spans))


class FarRows(unittest.TestCase):
    def test_needs_and_plans(self):
        dice = random.Random(71)
        for _ in range(60):
            script = near(model.random_script(dice, 8))
            layout = run(script)
            for far in FAR:
                by = far - NEAR
                there = run(moved(script, by))
                self.assertEqual(there.pieces(), moved(layout.pieces(), by))
                for call in (needed_labels, breaks, bound, plan):
                    self.assertEqual(call(there), moved(call(layout), by))
                self.assertEqual(fewest(there), fewest(layout))
                self.assertIs(check_bound(there, bound(there)), True)
                self.assertEqual(shortened(moved(script, by)), moved(shortened(script), by))
                self.assertEqual(run(plan(there)), there)

    def test_many_labels(self):
        dice = random.Random(72)
        pieces = [("new", low + NEAR, high + NEAR, count) for word, low, high, count in
                  [piece for piece in model.many_labels(dice, 40) if piece[0] == "new"]]
        layout = Layout([*pieces, ("old", pieces[-1][2], None)])
        for far in FAR:
            there = Layout(moved(layout.pieces(), far - NEAR))
            self.assertEqual(plan(there), moved(plan(layout), far - NEAR))
            self.assertEqual(run(plan(there)), there)
            word, number, entries, pairs = bound(layout)
            claimed = (word, number, moved(entries, far - NEAR), moved(pairs, far - NEAR))
            self.assertIs(check_bound(there, claimed), True)
            self.assertEqual(bound(there), claimed)

    def test_great_counts(self):
        dice = random.Random(73)
        for _ in range(40):
            script = with_great_counts(model.random_script(dice, 8))
            layout = run(script)
            self.assertEqual(fewest(layout), len(script))
            self.assertEqual(sorted(command[2] for command in plan(layout)),
                             sorted(command[2] for command in script))
            self.assertEqual(run(plan(layout)), layout)
            self.assertEqual(layout.shift, sum(command[2] for command in script))

    def test_great_counts_and_deletes(self):
        script = [("insert", 3, COUNT), ("delete", 2, COUNT), ("insert", 2, COUNT), ("insert", 0, COUNT),
                  ("delete", 5, 3 * COUNT)]
        layout = run(script)
        self.assertEqual(run(plan(layout)), layout)
        self.assertEqual(fewest(layout), 2)
        self.assertEqual(layout.pieces(), [("top", 5), ("old", COUNT, None)])

    def test_grids(self):
        dice = random.Random(74)
        for _ in range(30):
            script = near(shuffled(dice, model.random_script(dice, 5), model.random_script(dice, 5)))
            grid, other = run_grid(script), run_grid(script[1:])
            spans = list(model.small_spans(9))
            box = box_near(("sum", (dice.choice(spans), dice.choice(spans))))[1]
            for far in FAR:
                by = far - NEAR
                there = run_grid(moved(script, by))
                self.assertEqual(there, Grid(Layout(moved(grid.rows.pieces(), by)),
                                             Layout(moved(grid.columns.pieces(), by))))
                self.assertEqual(carried_box(there, moved(box, by)), moved(carried_box(grid, box), by))
                self.assertEqual(fewest_grid(there), fewest_grid(grid))
                self.assertEqual(run_grid(plan_grid(there)), there)
                self.assertEqual(difference_box(there, run_grid(moved(script[1:], by))) is None, grid == other)

    def test_cells(self):
        dice = random.Random(75)
        for _ in range(30):
            contents = {(dice.randrange(9) + NEAR, dice.randrange(9) + NEAR): box_near(random_content(dice))
                        for _ in range(8)}
            script = near(random_grid_script(dice, 8))
            sheet = Sheet()
            for cell, content in contents.items():
                sheet.put(cell, content)
            sheet.apply_all(script)
            for far in FAR:
                by = far - NEAR
                there = Sheet()
                for cell, content in contents.items():
                    there.put(moved(cell, by), moved(content, by))
                there.apply_all(moved(script, by))
                self.assertEqual(contents_of(there),
                                 {moved(cell, by): moved(content, by) for cell, content in contents_of(sheet).items()})

    def test_cells_with_great_counts(self):
        sheet = Sheet()
        for number in range(100):
            sheet.put((number, 0), number)
        sheet.put((99, 0), ("sum", ((0, 98), (0, None))))
        sheet.apply_all([("insert_rows", number, COUNT) for number in range(99, 0, -1)])
        self.assertEqual(sheet.cells(), [(number * (COUNT + 1), 0) for number in range(100)])
        last = (99 * (COUNT + 1), 0)
        self.assertEqual(sheet.content(last), ("sum", ((0, 98 * (COUNT + 1)), (0, None))))
        self.assertEqual(sheet.value(last), sum(range(99)))
        sheet.apply(("delete_rows", 1, 97 * (COUNT + 1)))
        self.assertEqual(sheet.cells(), [(0, 0), (COUNT + 1, 0), (2 * COUNT + 2, 0)])
        self.assertEqual(sheet.value((2 * COUNT + 2, 0)), 98)


class ListsChangedAfterwards(unittest.TestCase):
    def test_passed_lists(self):
        pieces = [("old", 0, 2), ("new", 2, 5, 1), ("old", 5, None)]
        layout = Layout(pieces)
        script = [("insert_rows", 1, 1), ("insert_columns", 0, 1)]
        grid, sheet = run_grid(script), Sheet()
        sheet.put((0, 0), 1)
        sheet.apply_all(script)
        answers = [bound(layout), plan(layout), plan_grid(grid), sheet.cells()]
        pieces.clear()
        script.append(("delete_rows", 0, 9))
        self.assertEqual([bound(layout), plan(layout), plan_grid(grid), sheet.cells()], answers)

    def test_returned_lists(self):
        layout = run([("delete", 2, 3), ("insert", 2, 1), ("delete", 0, 0)])
        grid, sheet = Grid(layout, layout), Sheet()
        sheet.put((0, 0), 1)
        calls = [lambda: needed_labels(layout), lambda: breaks(layout), lambda: plan(layout), lambda: bound(layout)[2],
                 lambda: bound(layout)[3], lambda: plan_grid(grid), lambda: sheet.cells(),
                 lambda: shortened([("insert", 1, 1)])]
        for call in calls:
            kept = list(call())
            self.assertNotEqual(kept, [])
            call().clear()
            call().append(None)
            self.assertEqual(call(), kept)


if __name__ == "__main__":
    unittest.main()
