"""The examples of the document for errors, layouts, scripts and spans."""

import unittest

from spanrows.errors import BadCommand, BadPieces
from spanrows.layouts import Layout, composed, merged
from spanrows.scripts import run
from spanrows.spans import carried, gone_spans, sources


class Examples(unittest.TestCase):
    def test_layout(self):
        layout = Layout([("top", 1), ("old", 0, 2), ("new", 2, 5, 4), ("old", 5, None)])
        self.assertEqual(
            [layout.row(0), layout.row(5), layout.where(6), layout.where(3), layout.top, layout.tail, layout.shift,
             str(layout)],
            [None, (2, 5), 9, None, 1, 5, 3, "top 1; old 0-2; new 2-5 x4; old 5-"])

    def test_wrong_pieces(self):
        with self.assertRaises(BadPieces) as caught:
            Layout([("old", 0, 2), ("new", 1, 5, 4), ("old", 5, None)])
        self.assertEqual(caught.exception.at, 1)

    def test_composed(self):
        self.assertEqual(composed(run([("delete", 1, 1)]), run([("insert", 1, 2)])).pieces(),
                         [("old", 0, 0), ("new", 0, 2, 2), ("old", 2, None)])

    def test_merged(self):
        layout = merged(run([("insert", 4, 1)]), run([("delete", 1, 1), ("insert", 3, 2)]))
        self.assertEqual(str(layout), "old 0; old 2-3; new 3-4 x3; old 4-")

    def test_run(self):
        self.assertEqual(
            [str(run([("insert", 2, 1), ("delete", 1, 1), ("insert", 1, 3)])),
             str(run([("delete", 0, 0)], start=run([("insert", 0, 2)])))],
            ["old 0; new 0-2 x3; new 1-2 x1; old 2-", "top 1; old 0-"])

    def test_wrong_command(self):
        with self.assertRaises(BadCommand) as caught:
            run([("insert", 0, 1), ("delete", 3, 2)])
        self.assertEqual(caught.exception.at, 1)

    def test_spans(self):
        layout = run([("delete", 1, 2), ("insert", 1, 3)])
        self.assertEqual(
            [carried(layout, (0, 5)), carried(layout, (1, 2)), carried(layout, (2, None)), sources(layout, (0, 4)),
             sources(layout, (4, 4)), sources(layout, (0, 3)), gone_spans(layout)],
            [(0, 6), None, (4, None), ((0, 0), (3, 3)), ((1, 3), (3, 3)), None, [(1, 2)]])


if __name__ == "__main__":
    unittest.main()
