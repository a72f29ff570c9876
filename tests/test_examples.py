"""All examples of the document."""

import unittest

from spanrows.books import Book
from spanrows.cells import Sheet
from spanrows.console import Console
from spanrows.errors import BadCommand, BadDeed, BadPieces, BadText, Ring
from spanrows.grids import carried_box, fewest_grid, run_grid
from spanrows.layouts import Layout, composed, merged
from spanrows.needs import bound
from spanrows.plans import plan, shortened
from spanrows.scripts import run
from spanrows.spans import carried, gone_spans, sources
from spanrows.texts import parse_script, script_text
from spanrows.watches import Alarm


class Examples(unittest.TestCase):
    def test_layout(self):
        layout = Layout([("top", 1), ("old", 0, 2), ("new", 2, 5, 4), ("old", 5, None)])
        self.assertEqual(
            [layout.row(0), layout.row(5), layout.where(6), layout.where(3), layout.top, layout.tail, layout.shift,
             str(layout)],
            [None, (2, 5), 9, None, 1, 5, 3, "top 1; old 0-2; new 2-5 x4; old 5-"])

    def test_wrong_pieces(self):
        with self.assertRaises(BadPieces) as caught:
            Layout([("old", 0, 2), ("new", 1, 5, 4), ("old", 5, None)])
        self.assertEqual(caught.exception.at, 1)

    def test_composed(self):
        self.assertEqual(composed(run([("delete", 1, 1)]), run([("insert", 1, 2)])).pieces(),
                         [("old", 0, 0), ("new", 0, 2, 2), ("old", 2, None)])

    def test_merged(self):
        layout = merged(run([("insert", 4, 1)]), run([("delete", 1, 1), ("insert", 3, 2)]))
        self.assertEqual(str(layout), "old 0; old 2-3; new 3-4 x3; old 4-")

    def test_run(self):
        self.assertEqual(
            [str(run([("insert", 2, 1), ("delete", 1, 1), ("insert", 1, 3)])),
             str(run([("delete", 0, 0)], start=run([("insert", 0, 2)])))],
            ["old 0; new 0-2 x3; new 1-2 x1; old 2-", "top 1; old 0-"])

    def test_wrong_command(self):
        with self.assertRaises(BadCommand) as caught:
            run([("insert", 0, 1), ("delete", 3, 2)])
        self.assertEqual(caught.exception.at, 1)

    def test_spans(self):
        layout = run([("delete", 1, 2), ("insert", 1, 3)])
        self.assertEqual(
            [carried(layout, (0, 5)), carried(layout, (1, 2)), carried(layout, (2, None)), sources(layout, (0, 4)),
             sources(layout, (4, 4)), sources(layout, (0, 3)), gone_spans(layout)],
            [(0, 6), None, (4, None), ((0, 0), (3, 3)), ((1, 3), (3, 3)), None, [(1, 2)]])

    def test_bound(self):
        layout = Layout([("old", 0, 0), ("new", 0, 2, 1), ("new", 1, 3, 1), ("old", 3, None)])
        self.assertEqual(
            bound(layout),
            ("bound", 6, [((0, 2), (0, 2), (0, 2)), ((1, 2), (0, 2), (1, 3)), ((1, 3), (1, 3), (1, 3))],
             [((0, 2), (1, 3))]))

    def test_shortened(self):
        script = [("insert", 3, 1), ("insert", 3, 1), ("delete", 0, 0), ("insert", 0, 2)]
        self.assertEqual([len(shortened(script)), run(shortened(script)) == run(script)], [3, True])
        self.assertEqual(plan(run(script)), shortened(script))

    def test_grid(self):
        grid = run_grid([("insert_rows", 1, 2), ("delete_columns", 3, 4), ("delete_rows", 0, 0)])
        self.assertEqual(
            [repr(grid), carried_box(grid, ((0, 2), (2, None))), carried_box(grid, ((1, 1), (3, 4))),
             fewest_grid(grid)],
            ["Grid(2 x 2 pieces)", ((0, 3), (2, None)), None, 3])

    def test_sheet(self):
        sheet = Sheet()
        sheet.put((0, 0), 5)
        sheet.put((2, 0), 7)
        sheet.put((3, 1), ("sum", ((0, 2), (0, None))))
        sheet.apply_all([("insert_rows", 1, 2), ("delete_rows", 0, 0)])
        self.assertEqual([sheet.cells(), sheet.content((4, 1)), sheet.value((4, 1))],
                         [[(3, 0), (4, 1)], ("sum", ((0, 3), (0, None))), 7])

    def test_ring(self):
        sheet = Sheet()
        sheet.put((0, 0), ("count", ((0, 0), (0, 5))))
        with self.assertRaises(Ring) as caught:
            sheet.value((0, 0))
        self.assertEqual(caught.exception.cell, (0, 0))

    def test_alarm(self):
        alarm = Alarm()
        alarm.note((2, 5))
        alarm.note((3, 5))
        alarm.note((3, None))
        alarm.note(None)
        self.assertEqual([alarm.notes, alarm.seen, alarm.told(), alarm.alarms],
                         [4, None, [(2, 5), (3, 5), (3, None), None], 2])

    def test_book(self):
        book = Book()
        book.do_all([("insert", 2, 3), ("name", "mid", (1, 4))])
        book.do(("delete", 0, 2))
        self.assertEqual([book.span("mid"), book.steps(), str(book.layout())], [(0, 1), (2, 0), "new 1-2 x2; old 2-"])

    def test_wrong_deed(self):
        book = Book()
        with self.assertRaises(BadDeed) as caught:
            book.do_all([("name", "a", (0, 1)), ("delete", 2)])
        self.assertEqual(caught.exception.at, 1)

    def test_script_text(self):
        self.assertEqual([parse_script("insert 2 10\ndelete 0 0\n"), script_text([("delete", 3, 4)])],
                         [[("insert", 2, 10), ("delete", 0, 0)], "delete 3 4\n"])

    def test_wrong_script_text(self):
        with self.assertRaises(BadText) as caught:
            parse_script("insert 2 0\n")
        self.assertEqual(caught.exception.at, 0)

    def test_console(self):
        console = Console(Book())
        self.assertEqual(
            [console.run("insert 1 2"), console.run("name a 0 3"), console.run("delete 0 1"), console.run("span a"),
             console.run("row 0"), console.run("undo now"), console.run("span b")],
            ["ok", "ok", "ok", "0 1", "0 1", "unknown", "error NoName"])


if __name__ == "__main__":
    unittest.main()
