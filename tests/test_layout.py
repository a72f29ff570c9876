"""Layouts from pieces, their rows, and what objects of the class show of themselves."""

import itertools
import random
import unittest
from unittest import mock

from spanrows.errors import BadPieces, BadRow, TooManyPieces
from spanrows.layouts import Layout, labels_of
from tests import model

GREAT = 10 ** 30 - 1
OPEN = ("old", 0, None)


def comb(many):
    """A layout's pieces, `many` in normal form: every second old row up to the open piece."""
    return [("old", 2 * number, 2 * number) for number in range(many - 1)] + [("old", 2 * many, None)]


class Checking(unittest.TestCase):
    def assert_wrong(self, pieces, at):
        with self.assertRaises(BadPieces) as caught:
            Layout(pieces)
        self.assertEqual(caught.exception.at, at, pieces)

    def test_wrong_piece_at_its_index(self):
        wrong = [
            (), ("top",), ("top", 0), ("top", -1), ("top", None), ("top", "1"), ("top", 1, 1), ("Top", 1), (None, 1),
            (1, 1), ("",), ("old",), ("old", 9), ("old", -1, 9), ("old", 9, 8), ("old", -1, None), ("old", None, 9),
            ("old", None, None), ("old", 9, 9, 1), ("old", 9, None, 1), ("old", "9", 9), ("old", 9, "9"),
            ("old", 9, ""), ("new",), ("new", 5, 6), ("new", 5, 6, 0), ("new", 5, 6, -1), ("new", 5, 5, 1),
            ("new", 6, 5, 1), ("new", -1, 6, 1), ("new", -2, -1, 1), ("new", 5, None, 1), ("new", None, 6, 1),
            ("new", 5, 6, None), ("new", 5, 6, "1"), ("new", 5, 6, 1, 1), ("gap", 5, 6, 1), ("old ", 9, 9),
        ]
        for piece in wrong:
            self.assert_wrong([piece, ("old", 20, None)], 0)
            self.assert_wrong([("old", 0, 0), ("new", 0, 1, 2), piece, ("old", 20, None)], 2)
            self.assert_wrong([("old", 0, 0), piece], 1)
            self.assert_wrong([OPEN, piece], 1)

    def test_first_wrong_piece_decides(self):
        self.assert_wrong([("old", 0, 2), ("new", 1, 5, 1), ("top", 0), ("old", 5, None)], 1)
        self.assert_wrong([("old", 0, 2), ("top", 1), ("new", 1, 5, 1)], 1)
        self.assert_wrong([("top", 1), ("old", 3, 3), ("old", 3, 3), ("old", 2, 2)], 2)

    def test_behind_an_open_piece(self):
        for piece in [("top", 1), ("old", 9, 9), ("old", 9, None), ("new", 9, 10, 1), OPEN]:
            self.assert_wrong([OPEN, piece], 1)
            self.assert_wrong([("old", 0, 2), ("old", 5, None), piece, piece], 2)

    def test_last_piece_not_open(self):
        self.assert_wrong([], 0)
        self.assert_wrong((), 0)
        self.assert_wrong([("top", 3)], 1)
        self.assert_wrong([("old", 0, 5), ("old", 6, 6)], 2)
        self.assert_wrong([("top", 1), ("top", 1), ("new", 0, 1, 1)], 3)

    def test_not_allowed_there(self):
        self.assert_wrong([("old", 0, 0), ("top", 1), ("old", 1, None)], 1)
        self.assert_wrong([("new", 0, 1, 1), ("top", 1), ("old", 1, None)], 1)
        self.assert_wrong([("old", 0, 4), ("old", 4, None)], 1)
        self.assert_wrong([("old", 0, 4), ("old", 2, None)], 1)
        self.assert_wrong([("new", 3, 6, 1), ("old", 5, None)], 1)
        self.assert_wrong([("new", 3, 6, 1), ("new", 2, 6, 1), ("old", 6, None)], 1)
        self.assert_wrong([("new", 3, 6, 1), ("new", 3, 5, 1), ("old", 6, None)], 1)
        self.assert_wrong([("new", 3, 6, 1), ("old", 3, 3), ("old", 6, None)], 1)
        Layout([("new", 3, 6, 1), ("new", 3, 7, 1), ("new", 4, 7, 1), ("old", 7, None)])
        Layout([("old", 3, 3), ("new", 3, 6, 1), ("old", 6, None)])

    def test_all_short_lists_of_small_pieces(self):
        pool = [("top", 1), ("old", 0, 0), ("old", 0, 1), ("old", 1, 1), ("old", 2, 3), ("new", 0, 1, 1),
                ("new", 0, 2, 2), ("new", 1, 2, 1), ("new", 1, 3, 1), ("old", 1, None), ("old", 2, None),
                ("old", 3, None)]
        for many in range(5):
            for pieces in itertools.product(pool, repeat=many):
                self.assertEqual(self.found(pieces), self.expected(pieces), pieces)

    def found(self, pieces):
        try:
            return Layout(pieces).pieces()
        except BadPieces as error:
            return error.at

    def expected(self, pieces):
        for at in range(len(pieces)):
            behind_open = any(piece[0] == "old" and piece[2] is None for piece in pieces[:at])
            if behind_open or not model.rows_allowed(model.rows_of(pieces[:at + 1])):
                return at
        if not pieces or pieces[-1][0] != "old" or pieces[-1][2] is not None:
            return len(pieces)
        return model.pieces_of(model.rows_of(pieces))


class NormalForm(unittest.TestCase):
    def test_already_normal(self):
        for pieces in [[OPEN], [("old", 7, None)], [("top", 2), OPEN], [("new", 3, 9, 1), ("old", 12, None)],
                       [("old", 0, 0), ("old", 2, 3), ("new", 3, 4, 1), ("new", 3, 5, 1), ("old", 5, None)],
                       [("old", 0, 3), ("new", 3, 4, GREAT), ("old", 4, None)],
                       [("old", 1, GREAT), ("new", GREAT, GREAT + 1, 1), ("old", GREAT + 1, None)]]:
            self.assertEqual(Layout(pieces).pieces(), pieces)
            self.assertEqual(len(Layout(pieces)), len(pieces))

    def test_joined(self):
        self.assertEqual(Layout([("top", 1), ("top", 2), ("top", 3), OPEN]).pieces(), [("top", 6), OPEN])
        self.assertEqual(Layout([("old", 0, 0), ("old", 1, 4), ("old", 5, None)]).pieces(), [OPEN])
        self.assertEqual(Layout([("old", 1, 1), ("old", 2, 4), ("old", 6, None)]).pieces(),
                         [("old", 1, 4), ("old", 6, None)])
        self.assertEqual(Layout([("new", 0, 5, 1), ("new", 0, 5, GREAT), ("new", 0, 6, 2), ("old", 6, None)]).pieces(),
                         [("new", 0, 5, GREAT + 1), ("new", 0, 6, 2), ("old", 6, None)])

    def test_random_pieces(self):
        dice = random.Random(1)
        for _ in range(400):
            pieces = model.random_pieces(dice)
            rows = model.rows_of(pieces)
            self.assertTrue(model.rows_allowed(rows))
            self.assertEqual(Layout(pieces).pieces(), model.pieces_of(rows))
            self.assertEqual(Layout(pieces), Layout(tuple(pieces)))
            self.assertEqual(Layout(Layout(pieces).pieces()), Layout(pieces))

    def test_limit(self):
        self.assertEqual(Layout.LIMIT, 60)
        self.assertEqual(len(Layout(comb(60))), 60)
        with self.assertRaises(TooManyPieces) as caught:
            Layout(comb(61))
        self.assertEqual(caught.exception.most, 60)

    def test_limit_counts_the_normal_form(self):
        pieces = [("top", 1)] * 100 + [("old", number, number) for number in range(200)] + [("old", 200, None)]
        self.assertEqual(Layout(pieces).pieces(), [("top", 100), OPEN])

    def test_wrong_pieces_ahead_of_too_many(self):
        for pieces, at in [(comb(70) + [("top", 1)], 70), (comb(70)[:-1], 69), (comb(70)[:-1] + [("old", 1, None)], 69)]:
            with self.assertRaises(BadPieces) as caught:
                Layout(pieces)
            self.assertEqual(caught.exception.at, at)

    def test_changes_by_the_caller(self):
        pieces = [("top", 2), ("old", 0, 4), ("old", 6, None)]
        layout = Layout(pieces)
        self.assertEqual(pieces, [("top", 2), ("old", 0, 4), ("old", 6, None)])
        pieces.clear()
        layout.pieces().append(("top", 1))
        layout.pieces()[0] = ("top", 9)
        self.assertEqual(layout.pieces(), [("top", 2), ("old", 0, 4), ("old", 6, None)])
        self.assertEqual((layout.top, layout.row(7), len(layout)), (2, (6, 6), 3))


class Rows(unittest.TestCase):
    def test_rows_and_places_against_the_model(self):
        dice = random.Random(2)
        for _ in range(200):
            pieces = model.random_pieces(dice)
            rows = model.rows_of(pieces)
            layout = Layout(pieces)
            self.assertEqual([layout.row(number) for number in range(len(rows))], rows)
            self.assertEqual(list(labels_of(layout, 0, len(rows) - 1)), rows)
            places = [rows.index((old, old)) if (old, old) in rows else None for old in range(model.WINDOW)]
            self.assertEqual([layout.where(old) for old in range(model.WINDOW)], places)
            normal = model.pieces_of(rows)
            self.assertEqual(layout.top, rows.count(None))
            self.assertEqual(layout.tail, normal[-1][1])
            self.assertEqual(layout.shift, rows.index((layout.tail, layout.tail)) - layout.tail)

    def test_plain(self):
        plain = Layout.plain()
        self.assertEqual(plain.pieces(), [OPEN])
        self.assertEqual((plain.top, plain.tail, plain.shift), (0, 0, 0))
        for number in (0, 1, GREAT):
            self.assertEqual(plain.row(number), (number, number))
            self.assertEqual(plain.where(number), number)

    def test_both_ends_of_great_pieces(self):
        half = 5 * 10 ** 29
        layout = Layout([("top", half), ("old", 2, half), ("new", half, half + 9, half), ("old", half + 10, None)])
        self.assertEqual((layout.top, layout.tail), (half, half + 10))
        start = half + (half - 1) + half
        self.assertEqual(layout.shift, start - (half + 10))
        for number, label in [(0, None), (half - 1, None), (half, (2, 2)), (2 * half - 2, (half, half)),
                              (2 * half - 1, (half, half + 9)), (start - 1, (half, half + 9)),
                              (start, (half + 10, half + 10)), (start + 5, (half + 15, half + 15)),
                              (GREAT + half, (GREAT + half - layout.shift,) * 2)]:
            self.assertEqual(layout.row(number), label)
        for old, number in [(0, None), (1, None), (2, half), (half, 2 * half - 2), (half + 1, None), (half + 9, None),
                            (half + 10, start), (GREAT, GREAT + layout.shift)]:
            self.assertEqual(layout.where(old), number)

    def test_deleted_rows_give_a_negative_shift(self):
        layout = Layout([("old", GREAT, None)])
        self.assertEqual((layout.top, layout.tail, layout.shift), (0, GREAT, -GREAT))
        self.assertEqual(layout.row(0), (GREAT, GREAT))
        self.assertIsNone(layout.where(GREAT - 1))

    def test_negative_numbers(self):
        layout = Layout([("top", 1), OPEN])
        for number in (-1, -2, -GREAT):
            for call in (layout.row, layout.where):
                with self.assertRaises(BadRow) as caught:
                    call(number)
                self.assertEqual(caught.exception.number, number)

    def test_arguments_by_name(self):
        layout = Layout(pieces=[("top", 1), OPEN])
        self.assertEqual((layout.row(number=1), layout.where(old=1)), ((0, 0), 2))
        self.assertEqual(list(labels_of(layout=layout, first=0, last=1)), [None, (0, 0)])


class LabelsOf(unittest.TestCase):
    def setUp(self):
        self.layout = Layout([("top", 2), ("old", 1, 2), ("new", 2, 4, 2), ("old", 5, None)])

    def test_parts(self):
        rows = [None, None, (1, 1), (2, 2), (2, 4), (2, 4), (5, 5), (6, 6), (7, 7)]
        for first in range(9):
            for last in range(9):
                self.assertEqual(list(labels_of(self.layout, first, last)), rows[first:last + 1])

    def test_last_less_than_first(self):
        for first, last in [(0, -1), (0, -GREAT), (5, 4), (GREAT, 0)]:
            self.assertEqual(list(labels_of(self.layout, first, last)), [])

    def test_great_rows_are_yielded_one_by_one(self):
        self.assertEqual(list(labels_of(self.layout, GREAT - 1, GREAT)), [(GREAT - 2,) * 2, (GREAT - 1,) * 2])
        labels = labels_of(self.layout, 3, GREAT)
        self.assertEqual([next(labels), next(labels)], [(2, 2), (2, 4)])

    def test_negative_first_when_iterated(self):
        for first, last in [(-1, 3), (-1, -1), (-1, -5), (-GREAT, GREAT)]:
            labels = labels_of(self.layout, first, last)
            with self.assertRaises(BadRow) as caught:
                next(labels)
            self.assertEqual(caught.exception.number, first)


class Shown(unittest.TestCase):
    def test_equal(self):
        one = Layout([("top", 1), ("top", 1), ("old", 0, 3), ("old", 4, None)])
        same = Layout([("top", 2), OPEN])
        self.assertTrue(one == same)
        self.assertFalse(one != same)
        self.assertEqual(Layout.plain(), Layout([OPEN]))

    def test_unequal(self):
        base = Layout([("top", 2), ("old", 0, 2), ("new", 2, 5, 4), ("old", 5, None)])
        for pieces in [[("top", 1), ("old", 0, 2), ("new", 2, 5, 4), ("old", 5, None)],
                       [("old", 0, 2), ("new", 2, 5, 4), ("old", 5, None)],
                       [("top", 2), ("old", 0, 2), ("new", 2, 5, 3), ("old", 5, None)],
                       [("top", 2), ("old", 0, 2), ("new", 2, 4, 4), ("old", 5, None)],
                       [("top", 2), ("old", 0, 2), ("new", 3, 5, 4), ("old", 5, None)],
                       [("top", 2), ("old", 0, 1), ("new", 2, 5, 4), ("old", 5, None)],
                       [("top", 2), ("old", 0, 2), ("new", 2, 5, 4), ("old", 6, None)]]:
            self.assertFalse(base == Layout(pieces))
            self.assertTrue(base != Layout(pieces))

    def test_equal_to_nothing_else(self):
        layout = Layout([("top", 1), OPEN])
        for other in [None, 0, 2, "top 1; old 0-", [("top", 1), OPEN], (("top", 1), OPEN), {}, object(), mock.ANY]:
            self.assertFalse(layout == other)
            self.assertTrue(layout != other)

    def test_len_and_repr(self):
        self.assertEqual((len(Layout.plain()), repr(Layout.plain())), (1, "Layout(1 pieces)"))
        layout = Layout([("top", 1), ("top", 1), ("old", 0, 2), ("old", 4, None)])
        self.assertEqual((len(layout), repr(layout)), (3, "Layout(3 pieces)"))
        self.assertEqual(repr(Layout(comb(60))), "Layout(60 pieces)")

    def test_methods_stand_in_the_class(self):
        for name in ("plain", "read", "top", "tail", "shift", "pieces", "row", "where", "__eq__", "__len__",
                     "__repr__", "__str__", "__init__", "LIMIT"):
            self.assertIn(name, vars(Layout))
        for name in ("top", "tail", "shift"):
            self.assertIsInstance(vars(Layout)[name], property)


if __name__ == "__main__":
    unittest.main()
