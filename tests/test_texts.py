"""The texts of layouts and scripts. Reading the text of a layout is tested in test_layout_text.py too."""

import random
import unittest

from spanrows.errors import BadCommand, BadText
from spanrows.layouts import Layout
from spanrows.scripts import run
from spanrows.texts import layout_text, parse_script, script_text
from tests import model
from tests.test_scripts import GREAT, RIGHT, WRONG

MOST = 10 ** 18 - 1
NO_LINES = ["", " ", "insert", "insert 1", "insert 1 ", "insert  1 1", "insert 1  1", " insert 1 1", "insert 1 1 ",
            "insert 1 1 1", "Insert 1 1", "INSERT 1 1", "insert 01 1", "insert 1 01", "insert 00 1", "insert +1 1",
            "insert -1 1", "insert 1 -1", "insert 1 +1", "insert 1 -", "insert a 1", "insert 1 a", "insert 1,1",
            "insert 1-1", "insert1 1", "insert 1 0", "insert 0 0", "insert 1.0 1", "insert 1_0 1", "insert 0x1 1",
            f"insert {MOST + 1} 1", f"insert 0 {MOST + 1}", "insert 0000000000000000001 1", "delete", "delete 1",
            "delete 1 1 1", "delete 2 1", "delete 1 -", "delete 1 01", "delete -1 1", "delete  1 1", "delete 1 1 ",
            "delete 0 None", f"delete 0 {MOST + 1}", "remove 1 1", "1 1", "1 insert 1", "name a 0 1", "unname a", "undo",
            "insert_rows 1 1", "insert\t1 1", "insert 1 1;", "# insert 1 1", "('insert', 1, 1)"]


class LayoutText(unittest.TestCase):
    def test_each_piece(self):
        layout = Layout([("top", 12), ("old", 0, 0), ("old", 2, 4), ("new", 4, 10, 1), ("new", 4, 11, 30),
                         ("old", 11, None)])
        self.assertEqual(layout_text(layout), "top 12; old 0; old 2-4; new 4-10 x1; new 4-11 x30; old 11-")
        self.assertEqual(layout_text(layout=Layout.plain()), "old 0-")

    def test_the_normal_form_is_written(self):
        layout = Layout([("top", 1), ("top", 1), ("old", 0, 0), ("old", 1, 3), ("new", 3, 4, 1), ("new", 3, 4, 2),
                         ("old", 4, 4), ("old", 5, None)])
        self.assertEqual(layout_text(layout), "top 2; old 0-3; new 3-4 x3; old 4-")

    def test_str_and_read(self):
        dice = random.Random(31)
        for _ in range(300):
            layout = Layout(model.random_pieces(dice))
            text = layout_text(layout)
            self.assertEqual((text, Layout.read(text)), (str(layout), layout))

    def test_great_numbers(self):
        for number in (MOST, MOST + 1, GREAT, 400 * GREAT):
            layout = Layout([("top", number), ("old", 0, 0), ("new", 0, number, number), ("old", number, None)])
            text = f"top {number}; old 0; new 0-{number} x{number}; old {number}-"
            self.assertEqual((layout_text(layout), str(layout)), (text, text))
            if number == MOST:
                self.assertEqual(Layout.read(text), layout)
            else:
                with self.assertRaises(BadText) as caught:
                    Layout.read(text)
                self.assertEqual(caught.exception.at, 0)


class ScriptText(unittest.TestCase):
    def test_lines(self):
        self.assertEqual(script_text([("insert", 0, 1), ("delete", 10, 200), ("insert", 30, 4)]),
                         "insert 0 1\ndelete 10 200\ninsert 30 4\n")
        self.assertEqual(script_text(script=(("delete", 3, 4),)), "delete 3 4\n")
        self.assertEqual((script_text([]), script_text(())), ("", ""))

    def test_great_numbers_are_written_in_full(self):
        for number in (MOST, MOST + 1, GREAT, 400 * GREAT):
            self.assertEqual(script_text([("insert", number, number), ("delete", 0, number)]),
                             f"insert {number} {number}\ndelete 0 {number}\n")

    def test_wrong_items(self):
        for item in WRONG:
            for ahead in ([], RIGHT):
                for script in ([*ahead, item, ("insert", 0, 1), ()], (*ahead, item)):
                    with self.assertRaises(BadCommand, msg=item) as caught:
                        script_text(script)
                    self.assertEqual((caught.exception.at, caught.exception.word), (len(ahead), "BadCommand"))

    def test_the_script_is_not_changed(self):
        script = list(RIGHT)
        script_text(script)
        self.assertEqual(script, RIGHT)


class ParseScript(unittest.TestCase):
    def assert_wrong(self, text, at):
        with self.assertRaises(BadText, msg=text) as caught:
            parse_script(text)
        self.assertEqual((caught.exception.at, caught.exception.word), (at, "BadText"), text)

    def test_right(self):
        self.assertEqual(parse_script(""), [])
        self.assertEqual(parse_script(text="insert 0 1\n"), [("insert", 0, 1)])
        self.assertEqual(parse_script("delete 0 0\ndelete 10 200\ninsert 30 4\n"),
                         [("delete", 0, 0), ("delete", 10, 200), ("insert", 30, 4)])

    def test_back_and_forth(self):
        dice = random.Random(32)
        for _ in range(300):
            script = model.random_script(dice, 12)
            self.assertEqual(parse_script(script_text(script)), script)
            self.assertEqual(run(parse_script(script_text(script))), run(script))
        script = [("insert", number, 1) for number in range(400)]
        self.assertEqual(parse_script(script_text(script)), script)

    def test_at_most_18_digits(self):
        self.assertEqual(parse_script(f"insert {MOST} {MOST}\ndelete 0 {MOST}\ndelete {MOST} {MOST}\n"),
                         [("insert", MOST, MOST), ("delete", 0, MOST), ("delete", MOST, MOST)])
        for number in (MOST + 1, GREAT):
            for item in (("insert", number, 1), ("insert", 0, number), ("delete", 0, number), ("delete", number, number)):
                self.assert_wrong(script_text([item]), 0)
                self.assert_wrong(script_text([("insert", 0, 1), item, item]), 1)

    def test_not_written_so(self):
        for line in NO_LINES:
            self.assert_wrong(line + "\n", 0)
            self.assert_wrong("insert 1 1\n" + line + "\n", 1)
            self.assert_wrong(line + "\ninsert 1 1\n", 0)
            self.assert_wrong("insert 1 1\ndelete 0 0\n" + line + "\ninsert 1 0\n", 2)
            self.assert_wrong(line + "\ninsert 1 1", 0)
            self.assert_wrong("insert 1 1\n" + line + "\nrest", 1)

    def test_empty_lines(self):
        self.assert_wrong("\n", 0)
        self.assert_wrong("\n\n", 0)
        self.assert_wrong("insert 1 1\n\n", 1)
        self.assert_wrong("\ninsert 1 1\n", 0)
        self.assert_wrong("insert 1 1\n\ninsert 1 1\n", 1)

    def test_text_behind_the_last_line_feed(self):
        for rest in ["insert 1 1", "delete 0 0", "x", " ", "insert 1 0", "undo"]:
            self.assert_wrong(rest, 0)
            self.assert_wrong("insert 1 1\n" + rest, 1)
            self.assert_wrong("insert 1 1\ndelete 0 0\ninsert 1 1\n" + rest, 3)

    def test_returned_lists_are_new(self):
        text = "insert 1 1\n"
        parse_script(text).append("more")
        self.assertEqual(parse_script(text), [("insert", 1, 1)])


if __name__ == "__main__":
    unittest.main()
