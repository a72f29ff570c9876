"""Spans and what layouts make of them."""

import random
import unittest

from spanrows.errors import BadSpan
from spanrows.layouts import Layout
from spanrows.scripts import run
from spanrows.spans import carried, difference, gone_spans, is_difference, is_span, sources
from tests import model

GREAT = 10 ** 30 - 1
NO_SPANS = [(-1, 0), (-1, None), (-2, -1), (1, 0), (0, -1), (-GREAT, None), (GREAT, GREAT - 1), (GREAT, -GREAT)]
REACH = 14


class IsSpan(unittest.TestCase):
    def test_spans(self):
        for span in [(0, 0), (0, 1), (3, 3), (0, None), (7, None), (0, GREAT), (GREAT, GREAT), (GREAT, None)]:
            self.assertIs(is_span(span), True)
        self.assertIs(is_span(span=(2, 5)), True)

    def test_no_spans(self):
        for span in NO_SPANS:
            self.assertIs(is_span(span), False)


class Carried(unittest.TestCase):
    def test_scripts_followed_row_by_row(self):
        dice = random.Random(11)
        for _ in range(150):
            script = model.random_script(dice, 8)
            layout, rows = run(script), model.run_rows(script)
            for span in model.small_spans(REACH):
                found = carried(layout, span)
                self.assertEqual(found, model.carry_by_rows(script, span), (script, span))
                self.assertEqual(found, model.carry_by_labels(rows, span), (script, span))

    def test_random_layouts_by_labels(self):
        dice = random.Random(12)
        for _ in range(150):
            pieces = model.random_pieces(dice)
            layout, rows = Layout(pieces), model.rows_of(pieces)
            for span in model.small_spans(REACH):
                self.assertEqual(carried(layout, span), model.carry_by_labels(rows, span), (pieces, span))

    def test_new_rows_at_the_ends_do_not_belong(self):
        layout = run([("insert", 3, 2)])
        self.assertEqual([carried(layout, span) for span in [(0, 2), (3, 4), (2, 3), (3, None), (0, None)]],
                         [(0, 2), (5, 6), (2, 5), (5, None), (0, None)])
        layout = run([("insert", 0, 2)])
        self.assertEqual([carried(layout, span) for span in [(0, 0), (0, None)]], [(2, 2), (2, None)])

    def test_a_gone_span_stays_gone(self):
        self.assertIsNone(carried(run([("delete", 2, 4), ("insert", 2, 3)]), (2, 4)))

    def test_great_numbers(self):
        layout = run([("insert", 5, GREAT), ("delete", 0, 2)])
        self.assertEqual(carried(layout, (0, GREAT)), (0, 2 * GREAT - 3))
        self.assertEqual(carried(layout, (GREAT, None)), (2 * GREAT - 3, None))
        self.assertEqual(carried(layout, (GREAT - 1, GREAT)), (2 * GREAT - 4, 2 * GREAT - 3))

    def test_no_spans(self):
        for span in NO_SPANS:
            for call in (carried, sources):
                with self.assertRaises(BadSpan):
                    call(Layout.plain(), span)


class Sources(unittest.TestCase):
    def assert_sources(self, layout, rows):
        by_target = {}
        for span in model.small_spans(40):
            by_target.setdefault(model.carry_by_labels(rows, span), []).append(span)
        for span in model.small_spans(18):
            self.assertEqual(sources(layout, span), self.rectangle(by_target.get(span)), (layout.pieces(), span))

    def rectangle(self, spans):
        if spans is None:
            return None
        firsts = (min(first for first, last in spans), max(first for first, last in spans))
        if spans[0][1] is None:
            lasts, every = None, [(first, None) for first in range(firsts[0], firsts[1] + 1)]
        else:
            lasts = (min(last for first, last in spans), max(last for first, last in spans))
            every = [(first, last) for first in range(firsts[0], firsts[1] + 1)
                     for last in range(lasts[0], lasts[1] + 1)]
        self.assertEqual(sorted(spans, key=str), sorted(every, key=str))
        return (firsts, lasts)

    def test_random_layouts(self):
        dice = random.Random(13)
        for _ in range(60):
            pieces = model.random_pieces(dice, 6)
            self.assert_sources(Layout(pieces), model.rows_of(pieces))

    def test_random_scripts(self):
        dice = random.Random(14)
        for _ in range(60):
            script = model.random_script(dice, 6)
            self.assert_sources(run(script), model.run_rows(script))

    def test_top_rows(self):
        layout = run([("insert", 0, 2)])
        for span in [(0, 0), (0, 1), (1, 1), (1, 5), (0, None), (1, None)]:
            self.assertIsNone(sources(layout, span))
        self.assertEqual(sources(layout, (2, None)), ((0, 0), None))
        self.assertEqual(sources(layout, (2, 4)), ((0, 0), (2, 2)))

    def test_great_numbers(self):
        layout = Layout([("top", 1), ("old", GREAT, GREAT), ("old", 2 * GREAT, None)])
        self.assertEqual(sources(layout, (1, 1)), ((0, GREAT), (GREAT, 2 * GREAT - 1)))
        self.assertEqual(sources(layout, (2, None)), ((GREAT + 1, 2 * GREAT), None))
        self.assertEqual(sources(layout, (GREAT, GREAT + 1)), ((3 * GREAT - 2,) * 2, (3 * GREAT - 1,) * 2))


class Difference(unittest.TestCase):
    def assert_difference(self, one, other):
        found = difference(one, other)
        if one == other:
            self.assertIsNone(found)
            return
        self.assertTrue(is_span(found))
        self.assertNotEqual(carried(one, found), carried(other, found))
        self.assertIs(is_difference(one, other, found), True)
        self.assertIs(is_difference(other, one, found), True)

    def test_alike_if_and_only_if_equal(self):
        dice = random.Random(15)
        equal = 0
        for _ in range(400):
            one, other = model.random_script(dice, 3, 3), model.random_script(dice, 3, 3)
            alike = all(model.carry_by_rows(one, span) == model.carry_by_rows(other, span)
                        for span in model.small_spans(REACH))
            self.assertEqual(run(one) == run(other), alike, (one, other))
            self.assert_difference(run(one), run(other))
            equal += alike
        self.assertGreater(equal, 20)

    def test_random_layouts(self):
        dice = random.Random(16)
        for _ in range(400):
            one, other = Layout(model.random_pieces(dice, 3)), Layout(model.random_pieces(dice, 3))
            self.assert_difference(one, other)
            self.assert_difference(one, Layout(one.pieces()))

    def test_one_row_changed(self):
        dice = random.Random(17)
        for _ in range(300):
            rows = model.rows_of(model.random_pieces(dice))
            changed = list(rows)
            at = dice.randrange(20)
            if dice.randrange(2):
                del changed[at]
            else:
                changed[at] = dice.choice([None, (dice.randrange(4), dice.randrange(4, 8))])
            if model.rows_allowed(changed):
                self.assert_difference(Layout(model.pieces_of(rows)), Layout(model.pieces_of(changed)))

    def test_only_highs_or_only_lows_differ(self):
        for one, other in [("new 0-2 x1; old 9-", "new 0-3 x1; old 9-"), ("new 0-5 x1; old 9-", "new 1-5 x1; old 9-"),
                           ("top 1; old 0-", "old 0-"), ("top 1; old 0-", "top 2; old 0-"),
                           ("old 0-", "old 0; new 0-10 x9; old 10-"), ("old 0-", "new 0-1 x1; old 1-"),
                           ("new 2-9 x3; old 9-", "new 2-9 x4; old 9-")]:
            self.assert_difference(Layout.read(one), Layout.read(other))
            self.assert_difference(Layout.read(other), Layout.read(one))

    def test_great_numbers(self):
        base = Layout([("old", 0, GREAT), ("old", GREAT + 2, None)])
        for pieces in [[("old", 0, GREAT), ("old", GREAT + 3, None)],
                       [("old", 0, GREAT), ("new", GREAT, GREAT + 2, 1), ("old", GREAT + 2, None)],
                       [("old", 0, GREAT // 2), ("new", GREAT // 2, GREAT, GREAT - GREAT // 2 - 1),
                        ("old", GREAT, GREAT), ("old", GREAT + 2, None)]]:
            self.assert_difference(base, Layout(pieces))

    def test_is_difference(self):
        one, other = run([("insert", 3, 1)]), run([("insert", 4, 1)])
        for span in model.small_spans(8):
            self.assertIs(is_difference(one, other, span), carried(one, span) != carried(other, span))
        self.assertIs(is_difference(one, other, claimed=(2, 3)), True)
        self.assertIs(is_difference(one, other, (0, 9)), False)

    def test_is_difference_with_no_spans(self):
        one, other = run([("insert", 0, 1)]), run([("delete", 0, 5)])
        for span in NO_SPANS + [(), (1,), (1, 2, 3), ("a", 1), (None, None)]:
            self.assertIs(is_difference(one, other, span), False)


class GoneSpans(unittest.TestCase):
    def expected(self, rows):
        reach = 40
        gone = [(first, last) for first in range(reach) for last in range(first, reach)
                if model.carry_by_labels(rows, (first, last)) is None]
        return [(first, last) for first, last in gone
                if not any(a <= first and last <= b and (a, b) != (first, last) for a, b in gone)]

    def test_random_layouts(self):
        dice = random.Random(18)
        for _ in range(100):
            pieces = model.random_pieces(dice, 6)
            self.assertEqual(gone_spans(Layout(pieces)), self.expected(model.rows_of(pieces)), pieces)

    def test_random_scripts(self):
        dice = random.Random(19)
        for _ in range(50):
            script = model.random_script(dice, 8)
            self.assertEqual(gone_spans(run(script)), self.expected(model.run_rows(script)), script)

    def test_few(self):
        self.assertEqual(gone_spans(Layout.plain()), [])
        self.assertEqual(gone_spans(run([("insert", 0, 3), ("insert", 6, 1)])), [])
        self.assertEqual(gone_spans(run([("delete", 0, GREAT)])), [(0, GREAT)])
        self.assertEqual(gone_spans(Layout.read("new 0-3 x1; new 1-3 x2; new 2-5 x1; old 5-")), [(0, 2), (2, 4)])
        self.assertEqual(gone_spans(Layout.read("top 4; new 2-9 x1; old 9; old 12-")), [(0, 8), (10, 11)])

    def test_the_list_is_new(self):
        layout = run([("delete", 2, 4)])
        gone_spans(layout).append((9, 9))
        self.assertEqual(gone_spans(layout), [(2, 4)])


if __name__ == "__main__":
    unittest.main()
