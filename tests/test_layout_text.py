"""The text of a layout, and reading it."""

import random
import unittest

from spanrows.errors import BadText
from spanrows.layouts import Layout
from tests import model
from tests.test_layout import comb


class Written(unittest.TestCase):
    def test_each_piece(self):
        self.assertEqual(str(Layout.plain()), "old 0-")
        self.assertEqual(str(Layout([("old", 0, 0), ("old", 2, 3), ("new", 3, 10, 1), ("old", 10, None)])),
                         "old 0; old 2-3; new 3-10 x1; old 10-")
        self.assertEqual(str(Layout([("top", 1), ("top", 11), ("old", 5, None)])), "top 12; old 5-")

    def test_great_numbers_are_written_in_full(self):
        great = 10 ** 30 - 1
        self.assertEqual(str(Layout([("top", great), ("old", great, None)])), f"top {great}; old {great}-")


class Read(unittest.TestCase):
    def assert_wrong(self, text, at):
        with self.assertRaises(BadText) as caught:
            Layout.read(text)
        self.assertEqual(caught.exception.at, at, text)

    def test_texts_of_layouts(self):
        dice = random.Random(3)
        for _ in range(300):
            layout = Layout(model.random_pieces(dice))
            self.assertEqual(Layout.read(str(layout)), layout)
        self.assertEqual(Layout.read(text="old 0-"), Layout.plain())
        self.assertEqual(len(Layout.read(str(Layout(comb(60))))), 60)

    def test_not_written_so(self):
        for piece in ["", " ", "top", "top ", "top  1", "top 1 ", " top 1", "Top 1", "top +1", "top -1", "top 01",
                      "top 1 1", "top x", "top 1.0", "top 1_0", "top\n1", "top 1\n", "old", "old ", "old -", "old -5",
                      "old 5--", "old 5-5", "old 05-", "old 5-06", "old 00", "old 5 -", "old 5-6-7", "old 5-6 x1",
                      "old a-", "old 5-a", "new", "new 1-2", "new 1-2 1", "new 1-2 x", "new 1-2 x01", "new 1-2 X1",
                      "new 1-2 xx1", "new 1 2 x1", "new 1-2x1", "new 1-2  x1", "new 1- x1", "new -2 x1", "new 01-2 x1",
                      "new 1-02 x1", "new 1 x1", "new 1-2 x1 ", "new 1-2-3 x1", "new 1-2 x-1", "gap 1", "old 5-;",
                      "old 5-\n", "old 5-5;old 6-", "top 1,", "top\t1"]:
            self.assert_wrong(piece, 0)
            self.assert_wrong(piece + "; old 20-", 0)
            self.assert_wrong("old 0; " + piece, 1)
            self.assert_wrong("old 0; new 0-1 x1; " + piece + "; old 20-", 2)
            self.assert_wrong("top 0; " + piece + "; old 20-", 1)

    def test_separators(self):
        self.assert_wrong("top 1;old 0-", 0)
        self.assert_wrong("top 1;  old 0-", 1)
        self.assert_wrong("top 1 ; old 0-", 0)
        self.assert_wrong("old 0-; ", 1)
        self.assert_wrong("; old 0-", 0)
        self.assert_wrong("old 0-\n", 0)

    def test_at_most_18_digits(self):
        most = 10 ** 18 - 1
        self.assert_wrong(f"top {most + 1}; old 0-", 0)
        self.assert_wrong(f"old 0-{most + 1}; old {most + 2}-", 0)
        self.assertEqual(Layout.read(f"top {most}; old {most}-").pieces(), [("top", most), ("old", most, None)])
        self.assertEqual(Layout.read(f"new {most - 1}-{most} x{most}; old {most}-").top, 0)
        self.assert_wrong(f"new 0-1 x{most + 1}; old 1-", 0)
        self.assert_wrong(f"old 0; old {most + 1}-", 1)
        self.assert_wrong(str(Layout([("old", 0, 0), ("new", 0, 10 ** 29, 1), ("old", 10 ** 29, None)])), 1)

    def test_refused_by_layout(self):
        for text, at in [("top 0; old 0-", 0), ("old 5-3; old 6-", 0), ("new 2-2 x1; old 6-", 0),
                         ("new 3-2 x1; old 6-", 0), ("new 2-3 x0; old 6-", 0), ("old 0-2; new 1-5 x4; old 5-", 1),
                         ("old 0; top 1; old 1-", 1), ("old 0-; old 1-", 1), ("old 0-; top 1", 1),
                         ("old 3; old 3-", 1), ("old 0-3; old 5; old 5-", 2)]:
            self.assert_wrong(text, at)

    def test_missing_open_piece(self):
        self.assert_wrong("top 1", 1)
        self.assert_wrong("old 0-5", 1)
        self.assert_wrong("old 0; new 0-2 x1; old 2", 3)

    def test_too_many(self):
        many = "; ".join(f"old {2 * number}" for number in range(60)) + "; old 120-"
        self.assert_wrong(many, 60)
        self.assert_wrong("top 1; " + many, 60)
        self.assert_wrong(many.replace("old 8;", "old 8; new 8-10 x1; new 8-10 x1;"), 60)

    def test_not_in_normal_form(self):
        for text, at in [("top 1; top 1; old 0-", 0), ("old 0; old 1-", 0), ("old 0-2; old 3-", 0),
                         ("top 1; old 0; old 1; old 3-", 1), ("old 0; new 0-2 x1; new 0-2 x1; old 2-", 1),
                         ("old 0; old 2; old 4; old 5-", 2)]:
            self.assert_wrong(text, at)

    def test_not_normal_behind_more_than_60_pieces(self):
        text = "; ".join(f"old {number}" for number in range(100)) + "; old 100-"
        self.assert_wrong(text, 0)

    def test_the_reasons_in_their_order(self):
        self.assert_wrong("old 0; old 1; top 0; old 7 -", 3)
        self.assert_wrong("old 0; old 1; top 0; old 7-", 2)
        self.assert_wrong("old 0; old 1; old 7-", 0)
        self.assert_wrong("old 0; old 1; old 7", 3)
        self.assert_wrong("; ".join(f"old {2 * number}" for number in range(70)), 70)


if __name__ == "__main__":
    unittest.main()
