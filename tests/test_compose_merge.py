"""composed, clash and merged."""

import random
import unittest

from spanrows.errors import Clash, TooManyPieces
from spanrows.layouts import Layout, clash, composed, merged
from spanrows.scripts import run
from tests import model
from tests.test_layout import comb

GREAT = 10 ** 30 - 1


def layout_at(number, high):
    return Layout([("new", number, high, 1), ("old", high, None)])


class Composed(unittest.TestCase):
    def test_none_and_one(self):
        self.assertEqual(composed(), Layout.plain())
        layout = run([("insert", 0, 2), ("delete", 4, 6)])
        self.assertEqual(composed(layout), layout)
        self.assertEqual(composed(Layout.plain(), layout, Layout.plain()), layout)

    def test_labels_of_the_second_mean_rows_of_the_first(self):
        first = Layout([("top", 2), ("old", 0, 1), ("new", 1, 5, 2), ("old", 5, None)])
        second = Layout([("top", 1), ("new", 0, 3, 1), ("new", 2, 5, 4), ("new", 4, 6, 1), ("old", 7, None)])
        self.assertEqual(composed(first, second).pieces(),
                         [("top", 2), ("new", 0, 5, 4), ("new", 1, 5, 1), ("old", 6, None)])

    def test_behind_a_top_row(self):
        first = run([("insert", 0, 2)])
        self.assertEqual(composed(first, run([("insert", 2, 3)])).pieces(), [("top", 5), ("old", 0, None)])
        self.assertEqual(composed(first, Layout([("new", 1, 9, 3), ("old", 9, None)])).pieces(),
                         [("top", 3), ("old", 7, None)])

    def test_random_layouts_row_by_row(self):
        dice = random.Random(6)
        for _ in range(400):
            several = [model.random_pieces(dice, 6) for _ in range(dice.randrange(1, 4))]
            rows = model.rows_of(several[0], 300)
            for pieces in several[1:]:
                rows = model.compose_rows(rows, model.rows_of(pieces, len(rows)))
            layouts = [Layout(pieces) for pieces in several]
            self.assertEqual(composed(*layouts).pieces(), model.pieces_of(rows), several)

    def test_great_numbers(self):
        layout = composed(run([("insert", GREAT, GREAT)]), run([("delete", 0, 2 * GREAT - 2)]))
        self.assertEqual(layout.pieces(), [("new", GREAT - 1, GREAT, 1), ("old", GREAT, None)])
        self.assertEqual(composed(*[run([("delete", 0, GREAT)])] * 50).tail, 50 * (GREAT + 1))

    def test_limit(self):
        full, cut = Layout(comb(60)), run([("delete", 0, 3)])
        first, second = run([("insert", 1, 1)]), run([("delete", 1, 1)])
        self.assertEqual(len(composed(full, cut)), 56)
        with self.assertRaises(TooManyPieces) as caught:
            composed(full, first)
        self.assertEqual(caught.exception.most, 60)
        self.assertEqual(composed(full, first, second), full)


class ClashOf(unittest.TestCase):
    def test_random_layouts(self):
        dice = random.Random(7)
        found = 0
        for _ in range(2000):
            one, other = model.random_pieces(dice, 5), model.random_pieces(dice, 5)
            expected = model.first_clash(model.rows_of(one), model.rows_of(other))
            self.assertEqual(clash(Layout(one), Layout(other)), expected, (one, other))
            found += expected is not None
        self.assertGreater(found, 100)
        self.assertLess(found, 1900)

    def test_within_means_both_ends(self):
        base = layout_at(3, 8)
        for low, high in [(3, 8), (3, 7), (4, 8), (3, 9), (2, 8), (2, 7), (4, 9), (0, 3), (8, 9), (10, 12)]:
            self.assertIsNone(clash(base, layout_at(low, high)))
        for low, high in [(4, 7), (2, 9), (5, 6), (0, GREAT)]:
            self.assertEqual(clash(base, layout_at(low, high)), ((3, 8), (low, high)))
            self.assertEqual(clash(layout_at(low, high), base), ((low, high), (3, 8)))

    def test_old_rows_do_not_clash(self):
        self.assertIsNone(clash(Layout.plain(), layout_at(2, 9)))
        self.assertIsNone(clash(layout_at(2, 9), Layout.plain()))
        self.assertIsNone(clash(one=run([("insert", 0, 4)]), other=layout_at(0, 9)))

    def test_first_in_the_order_of_one_then_of_other(self):
        one = Layout([("new", 0, 9, 1), ("new", 1, 10, 1), ("old", 10, None)])
        other = Layout([("new", 0, 8, 1), ("new", 1, 8, 2), ("new", 2, 8, 1), ("old", 10, None)])
        self.assertEqual(clash(one, other), ((0, 9), (1, 8)))
        self.assertEqual(clash(other, one), ((1, 8), (0, 9)))

    def test_equal_layouts_do_not_clash(self):
        dice = random.Random(8)
        for _ in range(100):
            layout = Layout(model.random_pieces(dice))
            self.assertIsNone(clash(layout, layout))


class Merged(unittest.TestCase):
    def assert_clash(self, layouts, label, other):
        with self.assertRaises(Clash) as caught:
            merged(*layouts)
        self.assertEqual((caught.exception.label, caught.exception.other), (label, other))

    def test_none_and_one(self):
        self.assertEqual(merged(), Layout.plain())
        dice = random.Random(9)
        for _ in range(100):
            layout = Layout(model.random_pieces(dice))
            self.assertEqual(merged(layout), layout)
            self.assertEqual(merged(layout, Layout.plain()), layout)

    def test_equal_ones_add_their_counts(self):
        layout = Layout([("top", 2), ("old", 0, 1), ("new", 1, 3, 5), ("old", 4, None)])
        self.assertEqual(merged(layout, layout, layout).pieces(),
                         [("top", 6), ("old", 0, 1), ("new", 1, 3, 15), ("old", 4, None)])

    def test_old_rows_that_all_have(self):
        self.assertEqual(merged(run([("delete", 0, 2)]), run([("delete", 2, 5)]), run([("delete", 8, 8)])).pieces(),
                         [("old", 6, 7), ("old", 9, None)])

    def test_random_layouts_row_by_row(self):
        dice = random.Random(10)
        clashes = merges = 0
        for _ in range(1500):
            several = [model.random_pieces(dice, 5) for _ in range(dice.randrange(2, 5))]
            layouts = [Layout(pieces) for pieces in several]
            rows = [model.rows_of(pieces) for pieces in several]
            pairs = [(k, j) for k in range(len(rows)) for j in range(k + 1, len(rows))]
            found = [pair for pair in (model.first_clash(rows[k], rows[j]) for k, j in pairs) if pair is not None]
            if found:
                self.assert_clash(layouts, *found[0])
                clashes += 1
            else:
                self.assertEqual(merged(*layouts).pieces(), model.pieces_of(model.merge_rows(rows)), several)
                merges += 1
        self.assertGreater(clashes, 100)
        self.assertGreater(merges, 100)

    def test_first_pair_that_clashes(self):
        first, second, third = layout_at(2, 9), layout_at(20, 29), layout_at(23, 25)
        self.assert_clash([first, second, third], (20, 29), (23, 25))
        fourth = layout_at(1, 10)
        self.assert_clash([first, second, third, fourth], (2, 9), (1, 10))
        self.assert_clash([third, second, first, fourth], (23, 25), (20, 29))

    def test_great_numbers(self):
        one, other = run([("insert", GREAT, GREAT)]), run([("delete", 5, GREAT - 2), ("insert", 6, 1)])
        self.assertEqual(merged(one, other).pieces(),
                         [("old", 0, 4), ("old", GREAT - 1, GREAT - 1), ("new", GREAT - 1, GREAT, GREAT + 1),
                          ("old", GREAT, None)])

    def test_limit(self):
        with self.assertRaises(TooManyPieces) as caught:
            merged(Layout(comb(60)), run([("delete", 200, 200)]))
        self.assertEqual(caught.exception.most, 60)
        self.assertEqual(len(merged(Layout(comb(60)), run([("insert", 0, 1), ("delete", 1, 1)]))), 60)

    def test_more_pieces_on_the_way(self):
        full = Layout(comb(60))
        self.assertEqual(merged(full, run([("delete", 200, 200)]), run([("delete", 100, 300)])).pieces(),
                         full.pieces()[:50] + [("old", 301, None)])

    def test_clash_ahead_of_too_many(self):
        full = Layout(comb(60))
        self.assert_clash([full, run([("delete", 200, 200)]), layout_at(1, 8), layout_at(2, 7)], (1, 8), (2, 7))

    def test_arguments_are_not_changed(self):
        one, other = run([("insert", 2, 1)]), run([("insert", 2, 1), ("delete", 0, 0)])
        merged(one, other)
        self.assertEqual((str(one), str(other)), ("old 0-1; new 1-2 x1; old 2-", "old 1; new 1-2 x1; old 2-"))


if __name__ == "__main__":
    unittest.main()
