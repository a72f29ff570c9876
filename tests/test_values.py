"""The values of cells."""

import random
import unittest

from spanrows.cells import Sheet
from spanrows.errors import BadCell, Gone, Ring
from tests import model
from tests.test_cells import GREAT, KINDS, NO_CELLS, random_content, random_grid_script

EVERYTHING = ((0, None), (0, None))


def sheet_of(contents):
    sheet = Sheet()
    for cell, content in contents.items():
        sheet.put(cell, content)
    return sheet


def row(first, last=None):
    """The box of the cells of row 0 from a column to a column."""
    return ((0, 0), (first, first if last is None else last))


class Values(unittest.TestCase):
    def values(self, numbers, box=EVERYTHING, kinds=KINDS):
        sheet = sheet_of({(0, column): number for column, number in enumerate(numbers)})
        found = []
        for kind in kinds:
            # The formula looks at row 0 only, so it may stand in row 1.
            sheet.put((1, 0), (kind, ((0, 0), box[1])))
            found.append(sheet.value((1, 0)))
        return found

    def test_numbers_and_nothing(self):
        sheet = sheet_of({(0, 0): 5, (3, 4): -GREAT, (1, 1): 0})
        self.assertEqual([sheet.value(cell) for cell in [(0, 0), (3, 4), (1, 1)]], [5, -GREAT, 0])
        self.assertIsNone(sheet.value((0, 1)))
        self.assertIsNone(sheet.value((GREAT, GREAT)))

    def test_four_kinds_over_numbers(self):
        self.assertEqual(self.values([4, -3, 9, 0, 9]), [19, 5, -3, 9])
        self.assertEqual(self.values([7]), [7, 1, 7, 7])
        self.assertEqual(self.values([0]), [0, 1, 0, 0])
        self.assertEqual(self.values([GREAT, GREAT, -GREAT]), [GREAT, 3, -GREAT, GREAT])

    def test_over_nothing(self):
        self.assertEqual(self.values([]), [0, 0, None, None])
        self.assertEqual(self.values([4, 5], ((0, 0), (2, None))), [0, 0, None, None])

    def test_the_edges_of_a_box(self):
        self.assertEqual(self.values([1, 2, 4, 8, 16], ((0, 0), (1, 3))), [14, 3, 2, 8])
        self.assertEqual(self.values([1, 2, 4, 8, 16], ((0, 0), (3, None))), [24, 2, 8, 16])
        sheet = sheet_of({(line, column): 10 ** (3 * line + column) for line in range(3) for column in range(3)})
        for box, expected in [(((1, 1), (1, 1)), 10 ** 4), (((0, 1), (1, 2)), 10 ** 5 + 10 ** 4 + 10 ** 2 + 10),
                              (((1, None), (2, None)), 10 ** 8 + 10 ** 5), (((0, 9), (0, 0)), 10 ** 6 + 10 ** 3 + 1)]:
            sheet.put((0, 20), ("sum", box))
            self.assertEqual(sheet.value((0, 20)), expected)

    def test_over_formulas(self):
        contents = {(0, 0): 3, (0, 1): 4, (1, 0): ("sum", row(0, 1)), (1, 1): ("most", row(0, 1)),
                    (2, 0): ("sum", ((1, 1), (0, None))), (2, 1): ("least", ((0, 1), (0, None))),
                    (3, 0): ("count", ((0, 2), (0, None)))}
        sheet = sheet_of(contents)
        self.assertEqual([sheet.value(cell) for cell in sheet.cells()], [3, 4, 7, 4, 11, 3, 6])

    def test_none_is_left_out(self):
        contents = {(0, 0): ("least", row(9)), (0, 1): ("most", row(9)), (0, 2): 8, (0, 3): ("sum", row(9)),
                    (0, 4): ("count", row(9))}
        sheet = sheet_of(contents)
        for box, expected in [(row(0, 2), [8, 1, 8, 8]), (row(0, 1), [0, 0, None, None]), (row(0, 4), [8, 3, 0, 8])]:
            for kind, value in zip(KINDS, expected):
                sheet.put((1, 0), (kind, box))
                self.assertEqual(sheet.value((1, 0)), value)

    def test_no_cells(self):
        for sheet in (Sheet(), sheet_of({(0, 0): ("sum", None)})):
            for cell in NO_CELLS:
                with self.assertRaises(BadCell):
                    sheet.value(cell)

    def test_random_sheets(self):
        dice = random.Random(61)
        seen = {"Gone": 0, "Ring": 0, "value": 0, "none": 0}
        for _ in range(400):
            sheet, slow = Sheet(), model.Cells()
            for _ in range(dice.randrange(1, 9)):
                cell, content = (dice.randrange(7), dice.randrange(7)), random_content(dice)
                sheet.put(cell, content)
                slow.contents[cell] = content
            for command in random_grid_script(dice, 2):
                sheet.apply(command)
                slow.apply(command)
            for cell in sheet.cells():
                expected = slow.value(cell)
                self.assertEqual(self.answer(sheet, cell), expected, (slow.contents, cell))
                kind = expected[0] if isinstance(expected, tuple) else "none" if expected is None else "value"
                seen[kind] += 1
        self.assertGreater(min(seen.values()), 30, seen)

    def answer(self, sheet, cell):
        before = sheet.twin()
        try:
            return sheet.value(cell)
        except (Gone, Ring) as error:
            return (error.word, error.cell)
        finally:
            self.assertEqual(sheet, before)


class WithoutValue(unittest.TestCase):
    def assert_raises(self, contents, cell, error, where):
        sheet = sheet_of(contents)
        for _ in range(2):
            with self.assertRaises(error) as caught:
                sheet.value(cell)
            self.assertEqual(caught.exception.cell, where)
            self.assertEqual(len(sheet), len(contents))

    def test_gone(self):
        for kind in KINDS:
            self.assert_raises({(2, 3): (kind, None)}, (2, 3), Gone, (2, 3))
            self.assert_raises({(0, 0): (kind, row(1)), (0, 1): ("sum", None)}, (0, 0), Gone, (0, 1))

    def test_the_first_gone_one_in_ascending_order(self):
        contents = {cell: ("sum", None) for cell in [(1, 1), (0, 9), (1, 0)]}
        contents[(5, 0)] = ("sum", ((0, 4), (0, 9)))
        self.assert_raises(contents, (5, 0), Gone, (0, 9))
        del contents[(0, 9)]
        self.assert_raises(contents, (5, 0), Gone, (1, 0))

    def test_formulas_over_formulas_are_met_on_the_way(self):
        contents = {(0, 0): ("sum", ((3, 3), (0, 0))), (0, 1): ("sum", None), (3, 0): ("sum", None),
                    (5, 0): ("sum", row(0, 1))}
        self.assert_raises(contents, (5, 0), Gone, (3, 0))
        contents[(3, 0)] = 7
        self.assert_raises(contents, (5, 0), Gone, (0, 1))

    def test_ring(self):
        for kind in KINDS:
            self.assert_raises({(0, 0): (kind, row(0))}, (0, 0), Ring, (0, 0))
            two = {(0, 0): (kind, row(1)), (0, 1): (kind, row(0))}
            self.assert_raises(two, (0, 0), Ring, (0, 0))
            self.assert_raises(two, (0, 1), Ring, (0, 1))
            self.assert_raises({**two, (7, 7): (kind, row(0, 5))}, (7, 7), Ring, (0, 0))
            self.assert_raises({**two, (7, 7): (kind, row(1, 5))}, (7, 7), Ring, (0, 1))

    def test_the_cell_that_is_met_first(self):
        contents = {(0, 0): ("sum", row(1, 2)), (0, 1): ("sum", row(2)), (0, 2): ("sum", row(1))}
        self.assert_raises(contents, (0, 0), Ring, (0, 1))
        self.assert_raises(contents, (0, 2), Ring, (0, 2))
        self.assert_raises({**contents, (0, 2): ("sum", row(0, 2))}, (0, 0), Ring, (0, 0))

    def test_ring_or_gone_whichever_is_met_first(self):
        contents = {(0, 0): ("sum", row(0)), (0, 1): ("sum", None), (1, 0): ("sum", row(0, 1))}
        self.assert_raises(contents, (1, 0), Ring, (0, 0))
        contents[(0, 0)], contents[(0, 1)] = contents[(0, 1)], ("sum", row(1))
        self.assert_raises(contents, (1, 0), Gone, (0, 0))

    def test_a_value_that_is_needed_twice_is_no_ring(self):
        contents = {(0, 0): ("sum", row(1, 3)), (0, 1): ("sum", row(3)), (0, 2): ("sum", row(3)), (0, 3): 5}
        self.assertEqual(sheet_of(contents).value((0, 0)), 15)

    def test_other_cells_do_not_matter(self):
        contents = {(0, 0): ("sum", row(1)), (0, 1): 5, (0, 2): ("sum", None), (0, 3): ("sum", row(3))}
        self.assertEqual(sheet_of(contents).value((0, 0)), 5)

    def test_there_is_a_value_again(self):
        sheet = sheet_of({(0, 0): ("sum", row(0, 1)), (0, 1): 5})
        with self.assertRaises(Ring):
            sheet.value((0, 0))
        sheet.put((0, 0), ("sum", row(1)))
        self.assertEqual(sheet.value((0, 0)), 5)


class LongChains(unittest.TestCase):
    def test_each_over_the_next_two(self):
        for step in (1, -1):
            columns = list(range(100))[::step]
            contents = {(0, columns[0]): 1, (0, columns[1]): 1}
            for one, two, column in zip(columns, columns[1:], columns[2:]):
                contents[(0, column)] = ("sum", row(min(one, two), max(one, two)))
            # Numbers of Fibonacci: without the values that are known already this would never end.
            self.assertEqual(sheet_of(contents).value((0, columns[-1])), 354224848179261915075)

    def test_each_over_all_before(self):
        contents = {(line, 0): ("sum", ((0, line - 1), (0, 0))) for line in range(1, 100)}
        self.assertEqual(sheet_of({**contents, (0, 0): 1}).value((99, 0)), 2 ** 98)

    def test_each_over_all_behind(self):
        contents = {(line, 0): ("sum", ((line + 1, None), (0, 0))) for line in range(99)}
        self.assertEqual(sheet_of({**contents, (99, 0): 1}).value((0, 0)), 2 ** 98)
        ring = sheet_of({**contents, (99, 0): ("sum", ((5, 5), (0, 0)))})
        with self.assertRaises(Ring) as caught:
            ring.value((0, 0))
        self.assertEqual(caught.exception.cell, (5, 0))

    def test_values_that_are_none_are_known_too(self):
        contents = {(0, column): ("least", row(column + 1, column + 2)) for column in range(100)}
        self.assertIsNone(sheet_of(contents).value((0, 0)))


if __name__ == "__main__":
    unittest.main()
