"""Plans and shortened scripts."""

import itertools
import random
import types
import unittest

from spanrows.errors import BadCommand, TooManyPieces
from spanrows.layouts import Layout
from spanrows.needs import fewest
from spanrows.plans import plan, shortened, steps_of
from spanrows.scripts import check_script, run
from tests import model
from tests.test_layout import comb
from tests.test_scripts import WRONG, comb_script

GREAT = 10 ** 30 - 1


class Plan(unittest.TestCase):
    def assert_plan(self, layout, number=None):
        script = plan(layout)
        self.assertIsInstance(script, list)
        self.assertIsNone(check_script(script))
        self.assertEqual(run(script), layout, script)
        self.assertEqual(len(script), fewest(layout) if number is None else number, layout.pieces())
        self.assertEqual(list(steps_of(layout)), script)
        self.assert_counts(layout, script)
        return script

    def assert_counts(self, layout, script):
        """Rows that are inserted with a label that the layout does not have are inserted one by one."""
        labels = {(piece[1], piece[2]) for piece in layout.pieces() if piece[0] == "new"}
        for at, command in enumerate(script):
            if command[0] == "insert" and command[1] > 0:
                label = run(script[:at + 1]).row(command[1])
                if label not in labels:
                    self.assertEqual(command[2], 1, layout.pieces())

    def test_few(self):
        self.assertEqual(self.assert_plan(Layout.plain()), [])
        self.assertEqual(self.assert_plan(run([("insert", 0, GREAT)])), [("insert", 0, GREAT)])
        self.assertEqual(self.assert_plan(run([("insert", 5, 7)])), [("insert", 5, 7)])
        self.assertEqual(self.assert_plan(run([("delete", 5, 7)])), [("delete", 5, 7)])
        self.assertEqual(self.assert_plan(run([("delete", 0, 7)])), [("delete", 0, 7)])
        for text, number in [("top 2; old 7-", 2), ("new 0-1 x5; old 1-", 2), ("old 0; new 0-2 x5; old 2-", 2),
                             ("top 1; new 3-5 x5; old 9-", 5), ("old 0; new 0-2 x1; new 1-3 x1; old 3-", 6)]:
            self.assert_plan(Layout.read(text), number)

    def test_random_layouts(self):
        dice = random.Random(31)
        for _ in range(300):
            pieces = model.random_pieces(dice)
            self.assert_plan(Layout(pieces), model.fewest_of(model.rows_of(pieces)))

    def test_random_scripts(self):
        dice = random.Random(32)
        for _ in range(200):
            script = model.random_script(dice, 8)
            self.assertLessEqual(len(self.assert_plan(run(script))), len(script))

    def test_many_labels(self):
        dice = random.Random(33)
        several = [model.many_labels(dice, dice.randrange(2, 60)) for _ in range(12)]
        several.append([("new", low, low + 59, 2) for low in range(59)] + [("old", 200, None)])
        several.append([("new", low // 2, 40 + (low + 1) // 2, 2) for low in range(59)] + [("old", 200, None)])
        several.append(comb(60))
        for pieces in several:
            layout = Layout(pieces)
            script = plan(layout)
            self.assertEqual(run(script), layout)
            self.assertEqual(len(script), fewest(layout))
            self.assertEqual(list(steps_of(layout)), script)

    def test_no_short_script_is_shorter(self):
        commands = [("insert", at, count) for at in range(5) for count in (1, 2)]
        commands += [("delete", first, last) for first in range(4) for last in range(first, 5)]
        lengths = {}
        for many in range(4):
            for script in itertools.product(commands, repeat=many):
                lengths.setdefault(str(run(script)), many)
        self.assertGreater(len(lengths), 1000)
        self.assertEqual(set(lengths.values()), {0, 1, 2, 3})
        for text, many in lengths.items():
            layout = Layout.read(text)
            found = plan(layout)
            self.assertLessEqual(len(found), many, text)
            self.assertEqual(run(found), layout)
            if set(found) <= set(commands):
                self.assertEqual(len(found), many, text)

    def test_steps_come_one_by_one(self):
        layout = Layout.read("old 0; new 0-2 x1; new 1-3 x1; old 3-")
        steps = steps_of(layout)
        self.assertIsInstance(steps, types.GeneratorType)
        script = plan(layout=layout)
        self.assertEqual([next(steps) for _ in script], script)
        self.assertIsNone(next(steps, None))
        self.assertEqual(list(steps_of(layout=layout)), script)

    def test_the_list_is_new(self):
        layout = run([("insert", 3, 2)])
        plan(layout).clear()
        self.assertEqual(plan(layout), [("insert", 3, 2)])

    def test_great_numbers(self):
        layout = Layout([("top", GREAT), ("new", 5, GREAT, GREAT), ("new", GREAT - 1, 2 * GREAT, GREAT - 1),
                         ("old", 3 * GREAT, None)])
        self.assert_plan(layout, 3 + 2 + 3 + 1)


class Shortened(unittest.TestCase):
    def test_alike_and_not_longer(self):
        dice = random.Random(34)
        shorter = 0
        for _ in range(200):
            script = model.random_script(dice, 12)
            kept = list(script)
            short = shortened(script)
            self.assertEqual(script, kept)
            self.assertEqual(run(short), run(script))
            self.assertLessEqual(len(short), len(script))
            self.assertEqual(len(short), fewest(run(script)))
            self.assertEqual(len(shortened(short)), len(short))
            self.assertEqual(shortened(tuple(script)), short)
            shorter += len(short) < len(script)
        self.assertGreater(shorter, 50)

    def test_few(self):
        self.assertEqual(shortened([]), [])
        self.assertEqual(shortened(script=[("insert", 2, 2), ("insert", 3, 2), ("delete", 2, 2)]), [("insert", 2, 3)])
        self.assertEqual(shortened([("insert", 2, 2), ("delete", 2, 3)]), [])

    def test_wrong_commands(self):
        for item in WRONG:
            with self.assertRaises(BadCommand, msg=item) as caught:
                shortened([("insert", 0, 1), item, ()])
            self.assertEqual(caught.exception.at, 1)

    def test_too_many_pieces(self):
        self.assertEqual(len(shortened(comb_script(60))), 59)
        with self.assertRaises(TooManyPieces) as caught:
            shortened(comb_script(61))
        self.assertEqual(caught.exception.most, 60)
        with self.assertRaises(BadCommand) as caught:
            shortened(comb_script(61) + [("delete", 1, 0)])
        self.assertEqual(caught.exception.at, 60)


if __name__ == "__main__":
    unittest.main()
