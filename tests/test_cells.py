"""Sheets with cells: contents, limits and commands. The values are tested in test_values.py."""

import random
import unittest

from spanrows.cells import Sheet
from spanrows.errors import BadCell, BadCommand, BadContent, Full, SpanError
from tests import model
from tests.test_grids import AXES, RIGHT, WRONG, on_axis
from tests.test_scripts import comb_script
from tests.test_spans import NO_SPANS

GREAT = 10 ** 30 - 1
NO_CELLS = [(-1, 0), (0, -1), (-1, -1), (-GREAT, GREAT), (GREAT, -1)]
KINDS = ("sum", "count", "least", "most")
BOX = ((0, 3), (2, None))
NO_CONTENTS = [("Sum", BOX), ("", BOX), ("mean", None), ("sums", BOX), ("max", BOX), ("sum ", None)]
NO_CONTENTS += [("sum", (span, (0, 1))) for span in NO_SPANS] + [("most", ((0, None), span)) for span in NO_SPANS]


def contents_of(sheet):
    return {cell: sheet.content(cell) for cell in sheet.cells()}


def full_sheet():
    sheet = Sheet()
    for number in range(100):
        sheet.put((number // 10, number), number)
    return sheet


def random_content(dice):
    if dice.randrange(3) == 0:
        return dice.randrange(-9, 10)
    spans = list(model.small_spans(9))
    return (dice.choice(KINDS), None if dice.randrange(12) == 0 else (dice.choice(spans), dice.choice(spans)))


def random_grid_script(dice, most):
    return [on_axis([command], dice.choice(AXES))[0] for command in model.random_script(dice, most)]


class Contents(unittest.TestCase):
    def assert_contents(self, sheet, expected):
        self.assertEqual(sheet.cells(), sorted(expected))
        self.assertEqual(contents_of(sheet), expected)
        self.assertEqual(len(sheet), len(expected))
        self.assertEqual(repr(sheet), f"Sheet({len(expected)} cells)")

    def test_behind_each_step(self):
        sheet, expected = Sheet(), {}
        self.assert_contents(sheet, expected)
        steps = [((2, 3), 5), ((0, 7), -GREAT), ((2, 1), ("sum", BOX)), ((2, 3), ("least", ((1, 1), (0, 0)))),
                 ((GREAT, GREAT), 0), ((10, 0), ("most", None)), ((9, 9), ("count", ((0, GREAT), (GREAT, None))))]
        for cell, content in steps:
            self.assertIsNone(sheet.put(cell, content))
            expected[cell] = content
            self.assert_contents(sheet, expected)
        for cell in [(2, 3), (5, 5), (GREAT, GREAT), (2, 3), (0, 7)]:
            self.assertIsNone(sheet.erase(cell))
            expected.pop(cell, None)
            self.assertIsNone(sheet.content(cell))
            self.assert_contents(sheet, expected)

    def test_arguments_by_name(self):
        sheet = Sheet()
        sheet.put(content=4, cell=(1, 2))
        self.assertEqual((sheet.content(cell=(1, 2)), sheet.value(cell=(1, 2))), (4, 4))
        sheet.apply(command=("insert_rows", 0, 1))
        sheet.apply_all(script=[("insert_columns", 0, 1)])
        self.assertEqual(sheet.cells(), [(2, 3)])
        sheet.erase(cell=(2, 3))
        self.assertEqual(len(sheet), 0)

    def test_all_kinds(self):
        sheet = Sheet()
        for kind in KINDS:
            for box in (BOX, None, ((0, 0), (0, 0)), ((GREAT, GREAT), (0, None))):
                sheet.put((1, 1), (kind, box))
                self.assertEqual(sheet.content((1, 1)), (kind, box))

    def test_zero_is_a_content(self):
        sheet = Sheet()
        sheet.put((0, 0), 0)
        self.assert_contents(sheet, {(0, 0): 0})

    def test_the_list_of_cells_is_new(self):
        sheet = Sheet()
        sheet.put((1, 2), 3)
        sheet.cells().append((0, 0))
        self.assertEqual(sheet.cells(), [(1, 2)])


class Errors(unittest.TestCase):
    def assert_refused(self, sheet, error, call, *arguments):
        before, cells = sheet.twin(), contents_of(sheet)
        with self.assertRaises(error, msg=arguments) as caught:
            call(*arguments)
        self.assertEqual(caught.exception.word, error.__name__)
        self.assertEqual(sheet, before)
        self.assertEqual(contents_of(sheet), cells)
        return caught.exception

    def test_no_cells(self):
        for sheet in (Sheet(), full_sheet()):
            for cell in NO_CELLS:
                for call in (sheet.erase, sheet.content, sheet.value):
                    self.assert_refused(sheet, BadCell, call, cell)
                for content in (1, ("sum", BOX), ("none", BOX), ("sum", ((0, 0), (1, 0)))):
                    self.assert_refused(sheet, BadCell, sheet.put, cell, content)

    def test_no_contents(self):
        for sheet in (Sheet(), full_sheet()):
            for content in NO_CONTENTS:
                self.assert_refused(sheet, BadContent, sheet.put, (0, 0), content)
                self.assert_refused(sheet, BadContent, sheet.put, (5, 500), content)

    def test_the_101st_cell(self):
        self.assertEqual(Sheet.LIMIT, 100)
        sheet = full_sheet()
        self.assertEqual(len(sheet), 100)
        for content in (1, ("sum", BOX), ("sum", None)):
            self.assertEqual(self.assert_refused(sheet, Full, sheet.put, (0, 100), content).most, 100)
        for number in range(100):
            sheet.put((number // 10, number), ("sum", None))
        self.assertEqual(len(sheet), 100)

    def test_room_behind_an_erase(self):
        sheet = full_sheet()
        sheet.erase((3, 33))
        sheet.put((0, 100), 1)
        self.assert_refused(sheet, Full, sheet.put, (3, 33), 1)
        sheet.erase((77, 77))
        self.assert_refused(sheet, Full, sheet.put, (3, 33), 1)

    def test_room_behind_a_deleted_row_or_column(self):
        for command, many in ((("delete_rows", 3, 3), 10), (("delete_columns", 4, 6), 3)):
            sheet = full_sheet()
            sheet.apply(command)
            self.assertEqual(len(sheet), 100 - many)
            for number in range(many):
                sheet.put((50, number), number)
            self.assert_refused(sheet, Full, sheet.put, (50, many), 1)

    def test_wrong_commands(self):
        for item in WRONG:
            for sheet in (Sheet(), full_sheet()):
                self.assertEqual(self.assert_refused(sheet, BadCommand, sheet.apply, item).at, 0)
                for ahead in ([], RIGHT, [("delete_rows", 0, 5)] * 3):
                    for script in ([*ahead, item, ("insert_rows", 0, 1), ()], (*ahead, item, ())):
                        error = self.assert_refused(sheet, BadCommand, sheet.apply_all, script)
                        self.assertEqual(error.at, len(ahead))
        self.assertTrue(issubclass(BadCommand, SpanError))


class Commands(unittest.TestCase):
    def test_step_by_step(self):
        dice = random.Random(51)
        for _ in range(40):
            sheet, slow = Sheet(), model.Cells()
            for _ in range(25):
                self.step(dice, sheet, slow)
                self.assertEqual(contents_of(sheet), slow.contents)
                self.assertEqual(sheet.cells(), sorted(slow.contents))
                self.assertEqual((len(sheet), repr(sheet)), (len(slow.contents), f"Sheet({len(slow.contents)} cells)"))

    def step(self, dice, sheet, slow):
        cell = (dice.randrange(9), dice.randrange(9))
        choice = dice.randrange(6)
        if choice < 3:
            content = random_content(dice)
            sheet.put(cell, content)
            slow.contents[cell] = content
        elif choice == 3:
            sheet.erase(cell)
            slow.contents.pop(cell, None)
        else:
            for command in random_grid_script(dice, 1):
                sheet.apply(command)
                slow.apply(command)

    def test_scripts(self):
        dice = random.Random(52)
        gone = 0
        for _ in range(150):
            sheet, slow = Sheet(), model.Cells()
            for _ in range(dice.randrange(12)):
                cell, content = (dice.randrange(9), dice.randrange(9)), random_content(dice)
                sheet.put(cell, content)
                slow.contents[cell] = content
            other, by_tuple = sheet.twin(), sheet.twin()
            script = random_grid_script(dice, 8)
            kept = list(script)
            self.assertIsNone(sheet.apply_all(script))
            self.assertEqual(script, kept)
            by_tuple.apply_all(tuple(script))
            for command in script:
                self.assertIsNone(other.apply(command))
                slow.apply(command)
            self.assertEqual(contents_of(sheet), slow.contents, script)
            self.assertEqual(sheet, other)
            self.assertEqual(sheet, by_tuple)
            gone += any(isinstance(content, tuple) and content[1] is None for content in slow.contents.values())
        self.assertGreater(gone, 20)

    def test_no_command(self):
        sheet = full_sheet()
        sheet.apply_all([])
        sheet.apply_all(())
        self.assertEqual(sheet, full_sheet())

    def test_a_box_that_is_gone_stays_gone(self):
        for axis, box in (("rows", ((2, 4), (0, None))), ("columns", ((0, None), (2, 4)))):
            sheet = Sheet()
            sheet.put((0, 0), ("sum", box))
            sheet.apply((f"delete_{axis}", 2, 3))
            self.assertIsNotNone(sheet.content((0, 0))[1])
            sheet.apply((f"delete_{axis}", 2, 2))
            self.assertEqual(sheet.content((0, 0)), ("sum", None))
            sheet.apply_all([(f"insert_{axis}", 2, 3), (f"delete_{axis}", 5, 9)])
            self.assertEqual(sheet.content((0, 0)), ("sum", None))

    def test_a_box_that_is_gone_on_the_way(self):
        sheet = Sheet()
        sheet.put((0, 0), ("least", ((2, 3), (0, 0))))
        sheet.apply_all([("insert_rows", 3, 4), ("delete_rows", 2, 7), ("insert_rows", 2, 6)])
        self.assertEqual(sheet.content((0, 0)), ("least", None))

    def test_contents_of_deleted_rows_and_columns(self):
        sheet = full_sheet()
        sheet.apply_all([("delete_rows", 2, 8), ("delete_columns", 0, 4), ("delete_columns", 90, 90)])
        expected = [(0, column) for column in range(5)] + [(1, column) for column in range(5, 15)]
        expected += [(2, column) for column in range(85, 94)]
        self.assertEqual(sheet.cells(), expected)
        self.assertEqual([sheet.content(cell) for cell in sheet.cells()],
                         [*range(5, 20), *range(90, 95), *range(96, 100)])

    def test_new_rows_at_the_edges_do_not_belong_to_a_box(self):
        sheet = Sheet()
        sheet.put((9, 9), ("sum", ((2, 4), (2, 4))))
        sheet.apply_all([("insert_rows", 5, 1), ("insert_rows", 2, 1), ("insert_columns", 3, 2)])
        self.assertEqual(sheet.content((11, 11)), ("sum", ((3, 5), (2, 6))))

    def test_long_scripts(self):
        dice = random.Random(53)
        for many in (100, 400):
            sheet, other = full_sheet(), full_sheet()
            for number in range(50):
                content = ("sum", ((number, number + 300), (2 * number, None)))
                sheet.put((number // 10, number), content)
                other.put((number // 10, number), content)
            script = [on_axis([command], dice.choice(AXES))[0] for command in comb_script(many + 1)]
            sheet.apply_all(script)
            for command in script:
                other.apply(command)
            self.assertEqual(sheet, other)

    def test_layouts_with_more_than_sixty_pieces(self):
        sheet = Sheet()
        for number in range(100):
            sheet.put((2 * number, 0), ("sum", ((2 * number, 2 * number + 1), (0, None))))
        sheet.apply_all(on_axis(comb_script(391), "rows"))
        self.assertEqual(sheet.cells(), [(number, 0) for number in range(100)])
        for number in range(100):
            self.assertEqual(sheet.content((number, 0)), ("sum", ((number, number), (0, None))))
        sheet = Sheet()
        for number in range(100):
            sheet.put((number, 0), ("sum", ((0, number), (0, None))))
        sheet.apply_all([("insert_rows", 2 * number + 1, 1) for number in range(400)])
        for number in range(100):
            self.assertEqual(sheet.content((2 * number, 0)), ("sum", ((0, 2 * number), (0, None))))


class Twins(unittest.TestCase):
    def test_each_goes_its_own_way(self):
        sheet = Sheet()
        sheet.put((0, 0), 1)
        sheet.put((1, 0), ("sum", ((0, 0), (0, 0))))
        twin = sheet.twin()
        self.assertIsInstance(twin, Sheet)
        self.assertEqual(twin, sheet)
        twin.put((0, 0), 2)
        self.assertEqual((sheet.value((1, 0)), twin.value((1, 0))), (1, 2))
        sheet.erase((0, 0))
        self.assertEqual((sheet.cells(), twin.cells()), ([(1, 0)], [(0, 0), (1, 0)]))
        twin.apply(("insert_rows", 0, 3))
        sheet.apply(("delete_rows", 0, 0))
        self.assertEqual((sheet.cells(), twin.cells()), ([(0, 0)], [(3, 0), (4, 0)]))
        self.assertEqual(sheet.content((0, 0)), ("sum", None))
        self.assertEqual(twin.content((4, 0)), ("sum", ((3, 3), (0, 0))))

    def test_equal(self):
        sheet, other = Sheet(), Sheet()
        self.assertTrue(sheet == other)
        sheet.put((0, 1), 5)
        sheet.put((1, 0), ("sum", BOX))
        self.assertFalse(sheet == other)
        other.put((1, 0), ("sum", BOX))
        other.put((0, 1), 5)
        self.assertTrue(sheet == other)
        self.assertFalse(sheet != other)
        for cell, content in (((0, 1), 6), ((0, 1), ("sum", BOX)), ((1, 0), ("most", BOX)), ((1, 0), ("sum", None)),
                              ((2, 2), 0)):
            changed = sheet.twin()
            changed.put(cell, content)
            self.assertTrue(sheet != changed)

    def test_a_sheet_equals_nothing_else(self):
        sheet = Sheet()
        sheet.put((0, 1), 5)
        for thing in ({(0, 1): 5}, [(0, 1)], "Sheet(1 cells)", None, 1, (), model.Cells()):
            self.assertFalse(sheet == thing)
            self.assertTrue(sheet != thing)

    def test_repr(self):
        self.assertEqual(repr(Sheet()), "Sheet(0 cells)")
        self.assertEqual(repr(full_sheet()), "Sheet(100 cells)")


if __name__ == "__main__":
    unittest.main()
