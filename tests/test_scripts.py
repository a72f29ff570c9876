"""Scripts and the layouts behind them."""

import itertools
import random
import unittest

from spanrows.errors import BadCommand, TooManyPieces
from spanrows.layouts import Layout, composed
from spanrows.scripts import check_script, run
from tests import model
from tests.test_layout import comb

GREAT = 10 ** 30 - 1
WRONG = [
    (), ("insert",), ("insert", 0), ("insert", 0, 1, 1), ("insert", -1, 1), ("insert", 0, 0), ("insert", 0, -1),
    ("insert", "0", 1), ("insert", 0, "1"), ("insert", None, 1), ("insert", 0, None), ("delete",), ("delete", 0),
    ("delete", 0, 0, 0), ("delete", -1, 0), ("delete", -2, -1), ("delete", 3, 2), ("delete", 0, None),
    ("delete", None, 0), ("delete", "0", 0), ("Insert", 0, 1), ("insert_rows", 0, 1), ("", 0, 1), (0, 0, 1),
    (None, 0, 1), (0, 1), ("name", "a", (0, 1)), None, 5, "insert", ["insert", 0, 1],
]
RIGHT = [("insert", 0, 1), ("insert", GREAT, GREAT), ("insert", 3, 2), ("delete", 0, 0), ("delete", 2, 7),
         ("delete", 0, GREAT), ("delete", GREAT, GREAT)]


def comb_script(many):
    """Deletes single rows so that the layout has `many` pieces."""
    return [("delete", number, number) for number in range(1, many)]


class CheckScript(unittest.TestCase):
    def test_right(self):
        self.assertIsNone(check_script([]))
        self.assertIsNone(check_script(RIGHT))
        self.assertIsNone(check_script(script=tuple(RIGHT)))

    def test_wrong_item_at_its_index(self):
        for item in WRONG:
            for ahead in ([], RIGHT):
                for call in (check_script, run):
                    script = [*ahead, item, ("insert", 0, 1), ()]
                    with self.assertRaises(BadCommand, msg=item) as caught:
                        call(script)
                    self.assertEqual(caught.exception.at, len(ahead))
                    with self.assertRaises(BadCommand) as caught:
                        call(tuple(script))
                    self.assertEqual(caught.exception.at, len(ahead))


class Run(unittest.TestCase):
    def assert_like_model(self, script):
        self.assertEqual(run(script).pieces(), model.pieces_of(model.run_rows(script)), script)

    def test_no_command(self):
        self.assertEqual(run([]), Layout.plain())
        self.assertEqual(run(()), Layout.plain())

    def test_single_commands(self):
        self.assertEqual(run([("insert", 0, 3)]).pieces(), [("top", 3), ("old", 0, None)])
        self.assertEqual(run([("insert", 1, 3)]).pieces(), [("old", 0, 0), ("new", 0, 1, 3), ("old", 1, None)])
        self.assertEqual(run([("delete", 0, 3)]).pieces(), [("old", 4, None)])
        self.assertEqual(run([("delete", 2, 3)]).pieces(), [("old", 0, 1), ("old", 4, None)])

    def test_below_a_top_row(self):
        self.assertEqual(run([("insert", 0, 1), ("insert", 1, 2)]).pieces(), [("top", 3), ("old", 0, None)])
        self.assertEqual(run([("insert", 0, 1), ("delete", 1, 2), ("insert", 1, 2)]).pieces(),
                         [("top", 3), ("old", 2, None)])

    def test_inserted_rows_can_be_deleted(self):
        self.assertEqual(run([("insert", 2, 5), ("delete", 2, 6)]), Layout.plain())
        self.assertEqual(run([("insert", 0, 5), ("delete", 0, 4)]), Layout.plain())

    def test_all_short_scripts(self):
        commands = [("insert", at, count) for at in range(4) for count in (1, 2)]
        commands += [("delete", first, last) for first in range(3) for last in range(first, 4)]
        for many in range(4):
            for script in itertools.product(commands, repeat=many):
                self.assert_like_model(script)

    def test_random_scripts(self):
        dice = random.Random(4)
        for _ in range(500):
            self.assert_like_model(model.random_script(dice, 10))

    def test_start(self):
        dice = random.Random(5)
        for _ in range(300):
            first, second = model.random_script(dice, 6), model.random_script(dice, 6)
            whole = run(first + second)
            self.assertEqual(run(second, start=run(first)), whole)
            self.assertEqual(composed(run(first), run(second)), whole)
            pieces = model.random_pieces(dice)
            rows = model.run_rows(second, model.rows_of(pieces))
            self.assertEqual(run(second, start=Layout(pieces)).pieces(), model.pieces_of(rows))

    def test_start_is_not_changed(self):
        start = run([("insert", 2, 2)])
        script = [("delete", 0, 4)]
        self.assertEqual(run(script, start=start).pieces(), [("old", 3, None)])
        self.assertEqual(start.pieces(), [("old", 0, 1), ("new", 1, 2, 2), ("old", 2, None)])
        self.assertEqual(script, [("delete", 0, 4)])
        self.assertEqual(run([], start=start), start)
        self.assertEqual(run([("insert", 1, 1)], start=None), run([("insert", 1, 1)]))

    def test_start_is_passed_by_name(self):
        with self.assertRaises(TypeError):
            run([], Layout.plain())

    def test_great_numbers(self):
        script = [("insert", GREAT, GREAT), ("delete", 1, GREAT - 2), ("insert", 2, 5)]
        self.assertEqual(run(script).pieces(), [("old", 0, 0), ("old", GREAT - 1, GREAT - 1),
                                                ("new", GREAT - 1, GREAT, GREAT + 5), ("old", GREAT, None)])
        layout = run([("insert", 0, GREAT)] * 400)
        self.assertEqual(layout.pieces(), [("top", 400 * GREAT), ("old", 0, None)])
        self.assertEqual(run([("delete", 0, GREAT)] * 400).tail, 400 * (GREAT + 1))

    def test_sixty_pieces(self):
        self.assertEqual(len(run(comb_script(60))), 60)
        with self.assertRaises(TooManyPieces) as caught:
            run(comb_script(61))
        self.assertEqual(caught.exception.most, 60)

    def test_more_pieces_on_the_way(self):
        script = comb_script(390) + [("delete", 3, 395)]
        self.assertEqual(run(script).pieces(), [("old", 0, 0), ("old", 2, 2), ("old", 4, 4), ("old", 785, None)])
        full = Layout(comb(60))
        self.assertEqual(run([("insert", 1, 1), ("delete", 1, 1)], start=full), full)
        with self.assertRaises(TooManyPieces):
            run([("insert", 1, 1)], start=full)

    def test_wrong_command_ahead_of_too_many_pieces(self):
        with self.assertRaises(BadCommand) as caught:
            run(comb_script(80) + [("insert", 0, 0)])
        self.assertEqual(caught.exception.at, 79)


if __name__ == "__main__":
    unittest.main()
