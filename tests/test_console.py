"""Consoles: each form of line, its answer, and the lines that are answered by `unknown`."""

import random
import unittest

from spanrows.books import Book
from spanrows.console import Console
from spanrows.layouts import Layout
from spanrows.needs import fewest
from spanrows.scripts import run
from spanrows.texts import script_text
from spanrows.watches import Journal
from tests import model_book
from tests.test_books import NO_NAMES, book_with, full_book, outcome, picture, some_names
from tests.test_scripts import comb_script

MOST = 10 ** 18 - 1
QUERIES = ["names", "layout", "fewest", "row 0", "row 5", "where 0", "where 5", "span a", "span b", "span zz"]
# One line of each form, in an order in which each one can be answered.
FORMS = ["insert 1 2", "name a 0 3", "name b 2 -", "delete 0 1", "undo", "redo", "names", "span a", "span b", "layout",
         "fewest", "row 0", "where 0", "unname a"]


def sample():
    """A book with a top row, new rows, a deleted row, and four spans, of which one is gone."""
    return book_with([("name", "gone", (4, 4)), ("insert", 0, 1), ("name", "a", (2, 3)), ("insert", 3, 2),
                      ("delete", 7, 7), ("name", "b", (6, None)), ("name", "top", (0, 0))])


class Answers(unittest.TestCase):
    def assert_answers(self, book, pairs):
        console = Console(book)
        for at, (line, answer) in enumerate(pairs):
            self.assertEqual(console.run(line), answer, line)
            self.assertEqual(len(console), at + 1)

    def test_changes(self):
        self.assert_answers(Book(), [
            ("insert 1 2", "ok"), ("layout", "old 0; new 0-1 x2; old 1-"), ("delete 0 1", "ok"),
            ("layout", "new 0-1 x1; old 1-"), ("name a 0 3", "ok"), ("name b 2 -", "ok"), ("name c 5 5", "ok"),
            ("span a", "0 3"), ("span b", "2 -"), ("span c", "5 5"), ("names", "a b c"), ("unname b", "ok"),
            ("names", "a c"), ("undo", "ok"), ("names", "a b c"), ("redo", "ok"), ("names", "a c"), ("undo", "ok"),
            ("undo", "ok"), ("undo", "ok"), ("undo", "ok"), ("names", "none"), ("undo", "ok"),
            ("layout", "old 0; new 0-1 x2; old 1-"), ("undo", "ok"), ("layout", "old 0-"), ("undo", "error NothingLeft"),
            ("redo", "ok"), ("layout", "old 0; new 0-1 x2; old 1-")])

    def test_queries(self):
        self.assertEqual(str(sample().layout()), "top 1; old 0-1; new 1-2 x2; old 2-3; old 5-")
        self.assert_answers(sample(), [
            ("names", "a b gone top"), ("span a", "2 5"), ("span b", "6 -"), ("span gone", "gone"), ("span top", "0 0"),
            ("layout", "top 1; old 0-1; new 1-2 x2; old 2-3; old 5-"), ("fewest", "3"), ("row 0", "top"),
            ("row 1", "0 0"), ("row 3", "1 2"), ("row 4", "1 2"), ("row 5", "2 2"), ("row 7", "5 5"), ("where 0", "1"),
            ("where 2", "5"), ("where 4", "deleted"), ("where 5", "7"), ("span zz", "error NoName")])

    def test_an_empty_book(self):
        self.assert_answers(Book(), [
            ("names", "none"), ("layout", "old 0-"), ("fewest", "0"), ("row 0", "0 0"), ("where 0", "0"),
            (f"row {MOST}", f"{MOST} {MOST}"), (f"where {MOST}", f"{MOST}"), ("undo", "error NothingLeft"),
            ("redo", "error NothingLeft"), ("span a", "error NoName"), ("unname a", "error NoName")])

    def test_numbers_of_18_digits(self):
        self.assert_answers(Book(), [
            (f"insert {MOST} {MOST}", "ok"), (f"insert 0 {MOST}", "ok"), (f"where {MOST}", str(3 * MOST)),
            (f"row {MOST}", "0 0"), ("layout", f"top {MOST}; old 0-{MOST - 1}; new {MOST - 1}-{MOST} x{MOST}; "
                                               f"old {MOST}-"),
            (f"name a {MOST} {MOST}", "ok"), (f"name b {MOST} -", "ok"), (f"insert 0 {MOST}", "ok"),
            ("span a", f"{2 * MOST} {2 * MOST}"), ("span b", f"{2 * MOST} -"), (f"delete 0 {MOST}", "ok"),
            ("span a", f"{MOST - 1} {MOST - 1}"), (f"delete {MOST} {MOST}", "ok")])

    def test_names_and_words_of_the_console(self):
        self.assert_answers(Book(), [
            ("name none 0 1", "ok"), ("names", "none"), ("name undo 2 3", "ok"), ("span undo", "2 3"),
            ("names", "none undo"), ("name gone 0 -", "ok"), ("span gone", "0 -"), ("unname none", "ok"),
            ("names", "gone undo")])

    def test_names_are_sorted(self):
        book = Book()
        console = Console(book)
        for name in ("b", "ab", "a", "zzzzzzzz", "aa"):
            self.assertEqual(console.run(f"name {name} 0 0"), "ok")
        self.assertEqual(console.run("names"), "a aa ab b zzzzzzzz")

    def test_fewest(self):
        dice = random.Random(101)
        for _ in range(60):
            console = Console(Book())
            for _ in range(dice.randrange(8)):
                console.run(f"insert {dice.randrange(6)} {dice.randrange(1, 3)}")
                console.run(f"delete {dice.randrange(3)} {dice.randrange(3, 5)}")
            layout = console.book().layout()
            self.assertEqual(console.run("fewest"), str(fewest(layout)))
            self.assertEqual(Layout.read(console.run("layout")), layout)

    def test_rows_and_places(self):
        book = sample()
        console = Console(book)
        for number in range(12):
            label, place = book.layout().row(number), book.layout().where(number)
            self.assertEqual(console.run(f"row {number}"), "top" if label is None else f"{label[0]} {label[1]}")
            self.assertEqual(console.run(f"where {number}"), "deleted" if place is None else str(place))

    def test_scripts_line_by_line(self):
        console = Console(Book())
        script = [("insert", 3, 2), ("delete", 0, 1), ("insert", 0, 4), ("delete", 3, 3)]
        for line in script_text(script).split("\n")[:-1]:
            self.assertEqual(console.run(line), "ok")
        self.assertEqual(console.book().layout(), run(script))

    def test_by_name(self):
        book = sample()
        console = Console(book=book)
        self.assertEqual(console.run(line="span a"), "2 5")


class Errors(unittest.TestCase):
    def assert_error(self, book, line, word):
        console, before = Console(book), picture(book)
        self.assertEqual(console.run(line), f"error {word}", line)
        self.assertEqual((picture(book), len(console)), (before, 1))

    def test_commands(self):
        for book in (Book(), sample(), full_book()):
            for line in ("insert 0 0", "insert 5 0", f"insert {MOST} 0", "delete 1 0", "delete 5 3", f"delete {MOST} 0"):
                self.assert_error(book, line, "BadCommand")

    def test_names(self):
        for book in (Book(), sample(), full_book()):
            for name in NO_NAMES:
                if name != "" and " " not in name:
                    for ends in ("0 1", "0 -", "3 2"):
                        self.assert_error(book, f"name {name} {ends}", "BadName")
                    self.assert_error(book, f"unname {name}", "NoName")
                    self.assert_error(book, f"span {name}", "NoName")
            self.assert_error(book, "unname zz", "NoName")
            self.assert_error(book, "span zz", "NoName")

    def test_any_word_may_be_a_name(self):
        for name in ("1", "-", "--", "x!", "a,b", "A", "'a'", "~", "abcdefghi", "0", "+5", "007", "Z" * 300, "a\nb"):
            self.assert_error(sample(), f"span {name}", "NoName")
            self.assert_error(sample(), f"unname {name}", "NoName")
            self.assert_error(sample(), f"name {name} 0 1", "BadName")

    def test_taken_full_and_no_span(self):
        for ends in ("0 1", "0 -", "3 2"):
            self.assert_error(sample(), f"name a {ends}", "Taken")
            self.assert_error(sample(), f"name gone {ends}", "Taken")
            self.assert_error(full_book(), f"name aa {ends}", "Taken")
            self.assert_error(full_book(), f"name zz {ends}", "Full")
        for ends in ("3 2", "1 0", f"{MOST} 0"):
            self.assert_error(full_book(39), f"name zz {ends}", "BadSpan")

    def test_too_many_pieces(self):
        book = Book()
        book.do_all(comb_script(60))
        self.assert_error(book, "delete 70 70", "TooManyPieces")
        self.assert_error(book, "insert 2 1", "TooManyPieces")

    def test_nothing_left(self):
        book = book_with([("insert", 0, 1)], depth=0)
        self.assert_error(book, "undo", "NothingLeft")
        self.assert_error(book, "redo", "NothingLeft")


class Unknown(unittest.TestCase):
    def assert_unknown(self, line):
        book = sample()
        book.undo()
        before, console = picture(book), Console(book)
        self.assertEqual(console.run(line), "unknown", line)
        self.assertEqual((picture(book), len(console)), (before, 1))

    def test_single_lines(self):
        for line in ["", " ", "  ", "\n", "help", "unknown", "ok", "steps", "depth", "undo now", "attach a", "twin",
                     "insert", "insert 1", "insert 1 -", "insert - 1", "insert 1 1 1", "delete 1", "delete 1 -",
                     "delete - 1", "name", "name a", "name a 1", "name a - 1", "name a - -", "name a 1 2 3", "name 1 2",
                     "name a 1 --", "name a 1 x", "name a x 1", "name zz", "unname", "unname a b", "undo 1", "redo 1",
                     "names a", "names all", "span", "span a b", "layout a", "layout 1", "fewest 1", "row", "row -",
                     "row a", "row 1 2", "where", "where -", "where a", "where 1 2", "undo redo", "undo\n", "names\n",
                     "\nundo", "insert\n1 2", "insert 1 2\n", "insert 1 2\ninsert 1 2", "row 1\n", "undo\nundo",
                     "Undo", "UNDO", "Insert 1 1", "undoo", "und", "row1", "row\t1", "row 1.0", "row 1e3", "row 0x1",
                     "row 1_0", "row ~1", "1", "1 insert 1", "a span", "0 row", "insert 1,1", "name a (0, 1)"]:
            self.assert_unknown(line)

    def test_numbers_that_are_not_written_so(self):
        for number in ["-1", "+1", "01", "00", "007", "-0", "+0", "1.", ".1", "1,0", "1-", "x1", "1x", "- 1",
                       str(MOST + 1), "0" * 19, "1" * 19, "9" * 30, "0" + str(MOST)]:
            for form in ("insert {} 1", "insert 1 {}", "delete {} 1", "delete 1 {}", "name zz {} 9", "name zz {} -",
                         "name zz 1 {}", "row {}", "where {}"):
                self.assert_unknown(form.format(number))

    def test_spaces(self):
        for line in FORMS:
            self.assert_unknown(" " + line)
            self.assert_unknown(line + " ")
            self.assert_unknown("\n" + line)
            for at, character in enumerate(line):
                if character == " ":
                    self.assert_unknown(line[:at] + " " + line[at:])
                    self.assert_unknown(line[:at] + "\t" + line[at + 1:])

    def test_words_without_characters(self):
        for line in ("span ", "unname ", "name  0 3", "name  0 -", "name zz  3", "name zz 0 ", "insert  1", "insert 1 ",
                     "row ", "where ", "names ", "undo "):
            self.assert_unknown(line)

    def test_words_left_out(self):
        for line in FORMS:
            words = line.split(" ")
            for at in range(len(words)):
                self.assert_unknown(" ".join(words[:at] + words[at + 1:]))

    def test_words_put_in(self):
        for line in FORMS:
            words = line.split(" ")
            for at in range(len(words) + 1):
                for more in ("x", "1"):
                    self.assert_unknown(" ".join(words[:at] + [more] + words[at:]))

    def test_first_words_changed(self):
        for line in FORMS:
            word, space, rest = line.partition(" ")
            for other in (word.upper(), word.title(), word + "x", word[:-1], word[::-1], ""):
                self.assert_unknown(other + space + rest)

    def test_words_exchanged(self):
        for line in ("1 insert 2", "1 2 insert", "a name 0 3", "name 0 a 3", "name 0 3 a", "0 a name 3", "a span",
                     "5 row", "5 where", "a unname", "name a - 3", "name - a 3"):
            self.assert_unknown(line)


class TheVeryBook(unittest.TestCase):
    def test_book(self):
        for book in (Book(), sample()):
            console = Console(book)
            self.assertIs(console.book(), book)
            console.run("insert 0 5")
            self.assertIs(console.book(), book)

    def test_deeds_beside_the_console(self):
        book = Book()
        console, second = Console(book), Console(book)
        console.run("name a 0 3")
        self.assertEqual(second.run("span a"), "0 3")
        book.do(("insert", 1, 2))
        self.assertEqual((console.run("span a"), second.run("layout")), ("0 5", "old 0; new 0-1 x2; old 1-"))
        self.assertEqual(second.run("undo"), "ok")
        self.assertEqual((console.run("layout"), book.steps()), ("old 0-", (1, 1)))
        book.depth = 0
        self.assertEqual((console.run("undo"), console.run("redo"), book.steps()), ("error NothingLeft", "ok", (0, 0)))
        self.assertEqual((len(console), len(second)), (5, 3))

    def test_each_line_is_one_step(self):
        book = Book()
        console = Console(book)
        for at, line in enumerate(["insert 1 2", "name a 0 3", "delete 0 0", "unname a"]):
            console.run(line)
            self.assertEqual(book.steps(), (at + 1, 0))

    def test_watches_are_told(self):
        book, journal = book_with([("name", "a", (2, 4))]), Journal()
        book.attach("a", journal)
        console = Console(book)
        for line in ("insert 0 1", "span a", "delete 0 9", "undo", "insert 0 0", "row 1"):
            console.run(line)
        self.assertEqual(journal.told(), [(2, 4), (3, 5), None, (3, 5)])

    def test_queries_change_nothing(self):
        for book in (Book(), sample(), full_book(), book_with([("name", "a", (0, 1)), ("name", "b", (5, None))])):
            book.do(("insert", 1, 1))
            book.undo()
            before, console = picture(book), Console(book)
            answers = [console.run(line) for line in QUERIES]
            self.assertEqual(picture(book), before)
            self.assertEqual([console.run(line) for line in reversed(QUERIES)], answers[::-1])
            self.assertEqual((picture(book), len(console)), (before, 2 * len(QUERIES)))

    def test_len(self):
        console = Console(Book())
        self.assertEqual(len(console), 0)
        for at, line in enumerate(["", "undo", "names", "insert 0 0", "insert 0 1", "names", "names", "x", "undo"]):
            console.run(line)
            self.assertEqual(len(console), at + 1)
        self.assertEqual(len(Console(console.book())), 0)
        console.book().do(("insert", 0, 1))
        self.assertEqual(len(console), 9)

    def test_against_deeds(self):
        dice = random.Random(102)
        seen = {}
        for _ in range(60):
            console, book = Console(Book()), Book()
            for _ in range(25):
                deed = model_book.random_right_deed(dice, some_names(4))
                if dice.randrange(5) == 0:
                    deed = dice.choice([("insert", 3, 0), ("delete", 4, 2), ("name", "A", (0, 1)), ("unname", "zz"),
                                        ("name", "zz", (4, 2))])
                call, line = (book.do, deed), self.line_of(deed)
                if dice.randrange(4) == 0:
                    line = dice.choice(["undo", "redo"])
                    call = (getattr(book, line),)
                found = outcome(*call)
                answer = "ok" if found is None else f"error {found[0]}"
                self.assertEqual(console.run(line), answer, line)
                self.assertEqual((console.book() == book, console.book().steps()), (True, book.steps()))
                seen[answer] = seen.get(answer, 0) + 1
        self.assertEqual(set(seen), {"ok", *[f"error {word}" for word in ("BadCommand", "BadName", "BadSpan", "NoName",
                                                                          "NothingLeft", "Taken")]})

    def line_of(self, deed):
        if deed[0] != "name":
            return " ".join(map(str, deed))
        first, last = deed[2]
        return f"name {deed[1]} {first} {'-' if last is None else last}"


if __name__ == "__main__":
    unittest.main()
