"""Needed labels, breaks, the fewest commands and bounds."""

import copy
import random
import unittest

from spanrows.layouts import Layout
from spanrows.needs import bound, breaks, check_bound, fewest, needed_labels
from spanrows.scripts import run
from tests import model

GREAT = 10 ** 30 - 1


def random_layouts(seed, many=200):
    """Pairs of layouts and of their rows in the model."""
    dice = random.Random(seed)
    for _ in range(many):
        pieces = model.random_pieces(dice)
        yield Layout(pieces), model.rows_of(pieces)
        script = model.random_script(dice, 8)
        yield run(script), model.run_rows(script)
    for _ in range(many // 20):
        pieces = model.many_labels(dice)
        yield Layout(pieces), model.rows_of(pieces, 300)


class NeededLabels(unittest.TestCase):
    def test_word_by_word(self):
        for layout, rows in random_layouts(21):
            self.assertEqual(needed_labels(layout), model.needed_of(rows), layout.pieces())

    def test_few(self):
        self.assertEqual(needed_labels(Layout.plain()), [])
        self.assertEqual(needed_labels(run([("insert", 0, 3), ("delete", 5, 6)])), [])
        self.assertEqual(needed_labels(layout=run([("insert", 3, 5)])), [(2, 3)])
        self.assertEqual(needed_labels(Layout.read("new 0-2 x1; new 1-3 x1; new 2-4 x1; old 9-")),
                         [(0, 2), (1, 2), (1, 3), (2, 3), (2, 4)])

    def test_labels_that_only_touch(self):
        self.assertEqual(needed_labels(Layout.read("new 0-2 x1; new 2-4 x1; old 4-")), [(0, 2), (2, 4)])

    def test_each_label_once(self):
        layout = Layout.read("new 0-5 x2; new 1-5 x7; new 1-6 x1; new 2-6 x1; old 6-")
        self.assertEqual(needed_labels(layout), [(0, 5), (1, 5), (1, 6), (2, 5), (2, 6)])

    def test_as_many_as_there_can_be(self):
        layout = Layout([("new", low, low + 59, 1) for low in range(59)] + [("old", 200, None)])
        self.assertEqual(needed_labels(layout), [(low, high) for low in range(59) for high in range(59, low + 60)])
        self.assertEqual(fewest(layout), 1770 + 1769 + 60)

    def test_the_list_is_new(self):
        layout = run([("insert", 3, 5)])
        needed_labels(layout).clear()
        breaks(layout).append(None)
        self.assertEqual((needed_labels(layout), breaks(layout)), ([(2, 3)], []))


class Breaks(unittest.TestCase):
    def test_word_by_word(self):
        for layout, rows in random_layouts(22):
            self.assertEqual(breaks(layout), model.breaks_of(rows), layout.pieces())

    def test_few(self):
        for text, expected in [
                ("old 0-", []), ("top 3; old 0-", []), ("old 1-", [(None, (1, 1))]),
                ("top 3; old 1-", [(None, (1, 1))]),
                ("new 0-4 x2; old 4-", [(None, (0, 4))]), ("top 1; new 2-4 x2; old 4-", [(None, (2, 4))]),
                ("old 0; new 0-1 x1; old 1-", []), ("old 0; new 0-4 x1; old 4-", []),
                ("old 0-2; old 4-", [((2, 2), (4, 4))]), ("old 0-2; new 2-4 x1; old 5-", [((2, 4), (5, 5))]),
                ("old 0; new 1-3 x1; old 3-", [((0, 0), (1, 3))]),
                ("old 0; new 0-2 x1; new 0-3 x1; new 1-3 x1; old 3-", []),
                ("old 0; new 0-2 x9; new 1-3 x9; old 3-", [((0, 2), (1, 3))]),
                ("old 0; new 0-2 x1; new 2-4 x1; old 4-", [((0, 2), (2, 4))]),
                ("old 3; old 5; old 7-", [(None, (3, 3)), ((3, 3), (5, 5)), ((5, 5), (7, 7))])]:
            self.assertEqual(breaks(Layout.read(text)), expected, text)

    def test_old_rows_in_several_pieces(self):
        layout = Layout([("old", 0, 1), ("old", 2, 2), ("old", 3, None)])
        self.assertEqual(breaks(layout), [])


class Fewest(unittest.TestCase):
    def test_by_its_parts(self):
        with_top = 0
        for layout, rows in random_layouts(24):
            self.assertEqual(fewest(layout), model.fewest_of(rows), layout.pieces())
            with_top += layout.top > 0
        self.assertGreater(with_top, 50)

    def test_few(self):
        for text, expected in [("old 0-", 0), ("top 9; old 0-", 1), ("old 7-", 1), ("top 2; old 7-", 2),
                               ("old 0; new 0-1 x5; old 1-", 1), ("old 0; new 0-2 x5; old 2-", 2),
                               ("new 0-1 x5; old 1-", 2), ("top 1; new 3-5 x5; old 9-", 5),
                               ("old 0; new 0-2 x1; new 1-3 x1; old 3-", 6)]:
            self.assertEqual(fewest(Layout.read(text)), expected, text)


class Bound(unittest.TestCase):
    def test_what_it_contains(self):
        for layout, rows in random_layouts(25, 100):
            word, number, entries, pairs = bound(layout)
            self.assertEqual((word, number, pairs), ("bound", fewest(layout), model.breaks_of(rows)))
            self.assertEqual([entry[0] for entry in entries], model.needed_of(rows))
            fresh = [label for label in rows if model.is_new(label)]
            for label, before, after in entries:
                self.assertLessEqual(fresh.index(before), fresh.index(after))
                self.assertEqual(label, (after[0], before[1]))
                if label in fresh:
                    self.assertEqual((before, after), (label, label))

    def test_kinds(self):
        word, number, entries, pairs = found = bound(run([("insert", 3, 2), ("delete", 0, 1)]))
        self.assertIsInstance(found, tuple)
        self.assertIsInstance(entries, list)
        self.assertIsInstance(pairs, list)
        self.assertEqual((entries, pairs), ([((2, 3),) * 3], [(None, (2, 2))]))

    def test_lists_are_new(self):
        layout = run([("insert", 3, 2), ("delete", 0, 1)])
        found = bound(layout)
        expected = copy.deepcopy(found)
        found[2].clear()
        found[3].append(((0, 0), (2, 2)))
        self.assertEqual(bound(layout), expected)

    def test_without_anything(self):
        self.assertEqual(bound(Layout.plain()), ("bound", 0, [], []))
        self.assertEqual(bound(run([("insert", 0, 4)])), ("bound", 1, [], []))


def cost(layout, entries, pairs):
    return (len(entries) + sum(label[1] - label[0] >= 2 for label, before, after in entries) + len(pairs)
            + (layout.top > 0))


class CheckBound(unittest.TestCase):
    layout = Layout.read("top 2; old 0; new 0-2 x4; new 1-3 x1; new 2-5 x1; old 7; old 9-")

    def assert_checked(self, expected, claimed, layout=layout):
        before = copy.deepcopy(claimed)
        self.assertIs(check_bound(layout, claimed), expected, claimed)
        self.assertEqual(claimed, before)

    def assert_entries(self, expected, entries):
        """The number is right, so that only the entries decide."""
        self.assert_checked(expected, ("bound", cost(self.layout, entries, []), entries, []))

    def assert_pairs(self, expected, pairs):
        self.assert_checked(expected, ("bound", len(pairs) + 1, [], pairs))

    def test_bounds_are_accepted(self):
        for layout, rows in random_layouts(26, 50):
            found = bound(layout)
            self.assert_checked(True, found, layout)
            self.assert_checked(True, (found[0], found[1], tuple(found[2]), tuple(found[3])), layout)
            for wrong in (-1, 1, GREAT):
                self.assert_checked(False, (found[0], found[1] + wrong, found[2], found[3]), layout)

    def test_parts_in_any_order_are_accepted(self):
        dice = random.Random(27)
        for layout, rows in random_layouts(27, 60):
            word, number, entries, pairs = bound(layout)
            for _ in range(4):
                some = dice.sample(entries, dice.randrange(len(entries) + 1))
                few = dice.sample(pairs, dice.randrange(len(pairs) + 1))
                self.assert_checked(True, ("bound", cost(layout, some, few), some, few), layout)
                self.assert_checked(False, ("bound", cost(layout, some, few) + 1, some, few), layout)
            self.assert_checked(True, ("bound", number, entries[::-1], pairs[::-1]), layout)

    def test_the_bound_of_another_layout(self):
        found = bound(self.layout)
        self.assert_checked(False, found, Layout.plain())
        self.assert_checked(False, bound(Layout.plain()))
        self.assert_checked(True, ("bound", 1, [], []))
        self.assert_checked(False, ("bound", 0, [], []))
        self.assert_checked(False, ("bound", 1, [], []), Layout.plain())

    def test_another_word(self):
        found = bound(self.layout)
        for word in ("", "Bound", "bounds", "bound ", "fewest"):
            self.assert_checked(False, (word,) + found[1:])

    def test_entries(self):
        right = [((0, 2), (0, 2), (0, 2)), ((1, 2), (0, 2), (1, 3)), ((2, 3), (1, 3), (2, 5))]
        self.assert_entries(True, right)
        for wrong in [
                right[0],                       # repeated
                ((1, 3), (1, 3), (2, 5)), ((1, 5), (1, 3), (2, 5)), ((2, 5), (1, 3), (2, 5)),  # another label
                ((2, 2), (0, 2), (2, 5)),       # low is not less than high
                ((1, 3), (1, 3), (1, 4)), ((1, 4), (1, 4), (1, 3)), ((1, 4), (1, 4), (1, 4)),  # no labels of new rows
                ((7, 7), (7, 7), (7, 7)), ((0, 0), (0, 0), (0, 0)), ((0, 0), (0, 0), (0, 2)),  # labels of old rows
                ((0, 3), (1, 3), (0, 2)), ((1, 5), (2, 5), (1, 3)), ((0, 5), (2, 5), (0, 2)),  # the wrong order
                ((-1, 2), (-1, 2), (-1, 2))]:
            self.assert_entries(False, [*right, wrong])
            self.assert_entries(False, [wrong, *right])

    def test_one_label_with_different_rows(self):
        layout = Layout.read("new 0-5 x1; new 1-5 x1; new 2-6 x1; new 2-7 x1; old 7-")
        several = [((2, 5), before, after) for before in [(0, 5), (1, 5)] for after in [(2, 6), (2, 7)]]
        for entry in several:
            self.assert_checked(True, ("bound", 2, [entry], []), layout)
        for other in several[1:]:
            self.assert_checked(False, ("bound", 4, [several[0], other], []), layout)

    def test_a_label_of_a_new_row_with_other_rows(self):
        layout = Layout.read("new 0-5 x1; new 1-5 x1; new 1-6 x1; old 7-")
        self.assert_checked(True, ("bound", 2, [((1, 5), (0, 5), (1, 6))], []), layout)

    def test_pairs(self):
        right = breaks(self.layout)
        self.assertEqual(right, [((0, 2), (1, 3)), ((1, 3), (2, 5)), ((2, 5), (7, 7)), ((7, 7), (9, 9))])
        self.assert_pairs(True, right)
        for wrong in [right[0], right[3], ((0, 0), (0, 2)), ((1, 3), (0, 2)), ((0, 2), (2, 5)), (None, (0, 0)),
                      (None, (0, 2)), ((9, 9), (10, 10)), ((0, 0), (1, 1)), ((7, 7), (8, 8))]:
            self.assert_pairs(False, [*right, wrong])
            self.assert_pairs(False, [wrong, *right])

    def test_the_edge(self):
        layout = Layout.read("old 4-")
        self.assert_checked(True, ("bound", 1, [], [(None, (4, 4))]), layout)
        self.assert_checked(False, ("bound", 2, [], [(None, (4, 4))] * 2), layout)
        self.assert_checked(False, ("bound", 1, [], [((0, 0), (4, 4))]), layout)


if __name__ == "__main__":
    unittest.main()
