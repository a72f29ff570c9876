"""Books: names, deeds, steps of several deeds, and their errors. Undo and depth are tested in test_book_steps.py."""

import random
import string
import unittest

from spanrows.books import Book, is_name
from spanrows.errors import (BadCommand, BadDeed, BadName, BadSpan, Full, NoName, NothingLeft, SpanError, Taken,
                             TooManyPieces)
from spanrows.layouts import Layout
from spanrows.scripts import run
from spanrows.spans import carried
from tests import model, model_book
from tests.test_scripts import comb_script
from tests.test_spans import NO_SPANS

GREAT = 10 ** 30 - 1
ATTRIBUTES = {"BadDeed": "at", "BadCommand": "at", "BadName": "name", "Taken": "name", "Full": "most", "NoName": "name",
              "TooManyPieces": "most", "BadCount": "number"}
NO_NAMES = ["", "A", "a1", "1", "aB", "a b", " a", "a ", "a_b", "a-", "-", "abcdefghi", "z" * 9, "a" * 20000, "\n", "a\n",
            "a.b", "~", "`", "{", "@", "[", "none ", "Aa", "aA"]
NO_DEEDS = [(), ("insert",), ("insert", 0), ("insert", 0, 1, 1), ("delete",), ("delete", 2), ("delete", 0, 0, 0),
            ("name",), ("name", "a"), ("name", "a", (0, 1), 1), ("name", "a", 0, 1), ("unname",), ("unname", "a", "b"),
            ("Insert", 0, 1), ("insert ", 0, 1), ("", 0, 1), ("",), ("undo",), ("redo",), ("names",),
            ("insert_rows", 0, 1), ("rename", "a", "b"), ("span", "a"), ("x",)]
NO_COMMANDS = [("insert", -1, 1), ("insert", 0, 0), ("insert", 0, -1), ("insert", -GREAT, GREAT), ("delete", -1, 0),
               ("delete", -2, -1), ("delete", 3, 2), ("delete", GREAT, 0)]


def outcome(call, *arguments):
    """None, or the word of the error and the value of its attribute."""
    try:
        assert call(*arguments) is None
    except (SpanError, NoName, NothingLeft) as error:
        assert error.word == error.__class__.__name__
        return (error.word, getattr(error, ATTRIBUTES[error.word]) if error.word in ATTRIBUTES else None)
    return None


def spans_of(book):
    return {name: book.span(name) for name in book.names()}


def picture(book):
    """All that the interface shows of a book, behind its steps too."""
    shown = [book.layout().pieces(), book.names(), spans_of(book), book.steps(), book.depth, len(book), repr(book)]
    for move in ("undo", "redo"):
        other = book.twin()
        # The moves go through a twin, so the book itself stays where it is.
        for _ in range(other.steps()[move == "redo"]):
            getattr(other, move)()
            shown.append((move, other.layout().pieces(), spans_of(other)))
    return shown


def some_names(many):
    """Many different names."""
    letters = string.ascii_lowercase
    return [letters[number // 26] + letters[number % 26] for number in range(many)]


def book_with(deeds, **more):
    book = Book(**more)
    for deed in deeds:
        book.do(deed)
    return book


def full_book(many=40):
    """A book with many names, each at its own row."""
    return book_with([("name", name, (at, at)) for at, name in enumerate(some_names(many))])


class BookTest(unittest.TestCase):
    def assert_refused(self, book, error, value, call, *arguments):
        before = picture(book)
        with self.assertRaises(error, msg=arguments) as caught:
            call(*arguments)
        self.assertEqual(caught.exception.__class__, error)
        self.assertEqual(caught.exception.word, error.__name__)
        if error.__name__ in ATTRIBUTES:
            self.assertEqual(getattr(caught.exception, ATTRIBUTES[error.__name__]), value, arguments)
        self.assertEqual(picture(book), before)

    def assert_like(self, book, slow):
        state = slow.state()
        self.assertEqual(book.layout().pieces(), state.pieces())
        self.assertEqual(book.names(), sorted(state.inside))
        self.assertEqual(spans_of(book), state.spans())
        self.assertEqual((book.steps(), book.depth), (slow.steps(), slow.depth))
        self.assertEqual((len(book), repr(book)), (len(state.inside), f"Book({len(state.inside)} names)"))


class Names(unittest.TestCase):
    def test_names(self):
        for name in ["a", "z", "abcdefgh", "zzzzzzzz", "none", "undo", "mid", *string.ascii_lowercase]:
            self.assertIs(is_name(name), True)
        self.assertIs(is_name(text="a"), True)

    def test_no_names(self):
        for name in NO_NAMES:
            self.assertIs(is_name(name), False, name)

    def test_every_character(self):
        for character in ["\n", *map(chr, range(32, 127))]:
            expected = character in string.ascii_lowercase
            self.assertEqual([is_name(character), is_name("a" + character), is_name(character + "a")], [expected] * 3)


class NewBooks(BookTest):
    def test_it_is_empty(self):
        for book in (Book(), Book(depth=0), Book(depth=100)):
            self.assertEqual(book.layout(), Layout.plain())
            self.assertEqual((book.names(), book.steps(), len(book), repr(book)), ([], (0, 0), 0, "Book(0 names)"))

    def test_class_values(self):
        self.assertEqual((Book.LIMIT, Book.MOST_DEPTH), (40, 100))
        self.assertEqual((Book().LIMIT, Book().MOST_DEPTH), (40, 100))

    def test_depth_is_passed_by_name(self):
        with self.assertRaises(TypeError):
            Book(5)


class Deeds(BookTest):
    def test_each_kind(self):
        book = Book()
        steps = [
            (("name", "a", (2, 4)), {"a": (2, 4)}, "old 0-"),
            (("insert", 2, 1), {"a": (3, 5)}, "old 0-1; new 1-2 x1; old 2-"),
            (("insert", 4, 2), {"a": (3, 7)}, "old 0-1; new 1-2 x1; old 2; new 2-3 x2; old 3-"),
            (("name", "new", (4, 5)), {"a": (3, 7), "new": (4, 5)}, None),
            (("name", "far", (8, None)), {"a": (3, 7), "new": (4, 5), "far": (8, None)}, None),
            (("insert", 8, 1), {"a": (3, 7), "new": (4, 5), "far": (9, None)}, None),
            (("delete", 4, 5), {"a": (3, 5), "new": None, "far": (7, None)}, None),
            (("insert", 4, 9), {"a": (3, 14), "new": None, "far": (16, None)}, None),
            (("unname", "a"), {"new": None, "far": (16, None)}, None),
            (("delete", 0, GREAT), {"new": None, "far": (0, None)}, None),
            (("unname", "new"), {"far": (0, None)}, None),
            (("name", "new", (0, 0)), {"far": (0, None), "new": (0, 0)}, None),
        ]
        for at, (deed, spans, text) in enumerate(steps):
            self.assertIsNone(book.do(deed))
            self.assertEqual(spans_of(book), spans, deed)
            self.assertEqual((book.names(), book.steps(), len(book)), (sorted(spans), (at + 1, 0), len(spans)))
            if text is not None:
                self.assertEqual(str(book.layout()), text)

    def test_a_span_that_is_gone_keeps_its_name(self):
        book = book_with([("name", "a", (1, 2)), ("delete", 0, 5)])
        self.assertEqual((book.names(), book.span("a"), len(book)), (["a"], None, 1))
        for deed in (("insert", 0, 5), ("delete", 2, 3), ("insert", 1, 1), ("name", "b", (0, 0))):
            book.do(deed)
            self.assertIsNone(book.span("a"))
        self.assert_refused(book, Taken, "a", book.do, ("name", "a", (0, 0)))
        book.do(("unname", "a"))
        self.assertEqual(book.names(), ["b"])
        book.do(("name", "a", (0, 0)))
        self.assertEqual(book.span("a"), (0, 0))

    def test_a_span_is_one_of_the_sheet_as_it_is_now(self):
        book = book_with([("insert", 0, 3), ("name", "top", (0, 2)), ("delete", 1, 1), ("insert", 1, 4)])
        self.assertEqual((book.span("top"), str(book.layout())), ((0, 5), "top 6; old 0-"))
        book = book_with([("insert", 2, 3), ("name", "new", (2, 4)), ("insert", 2, 1), ("insert", 4, 1)])
        self.assertEqual((book.span("new"), str(book.layout())), ((3, 6), "old 0-1; new 1-2 x5; old 2-"))

    def test_names_of_equal_spans_and_ascending(self):
        book = book_with([("name", name, (1, 3)) for name in ("b", "aa", "a", "ab", "z", "abcdefgh")])
        self.assertEqual(book.names(), ["a", "aa", "ab", "abcdefgh", "b", "z"])
        book.do(("insert", 2, 1))
        self.assertEqual(set(spans_of(book).values()), {(1, 4)})

    def test_great_numbers(self):
        book = book_with([("name", "a", (GREAT, GREAT)), ("name", "b", (0, GREAT)), ("name", "c", (GREAT, None)),
                          ("insert", GREAT, GREAT), ("insert", 0, GREAT)])
        self.assertEqual(spans_of(book), {"a": (3 * GREAT,) * 2, "b": (GREAT, 3 * GREAT), "c": (3 * GREAT, None)})
        book.do(("delete", GREAT, 2 * GREAT - 1))
        self.assertEqual(spans_of(book), {"a": (2 * GREAT,) * 2, "b": (GREAT, 2 * GREAT), "c": (2 * GREAT, None)})

    def test_no_name(self):
        for book in (Book(), full_book(3)):
            for name in ["zz", "a", *NO_NAMES]:
                self.assert_refused(book, NoName, name, book.span, name)
                self.assert_refused(book, NoName, name, book.do, ("unname", name))

    def test_random_deeds(self):
        dice = random.Random(71)
        names = ["a", "b", "cc", "d", "e"]
        seen = {}
        for _ in range(60):
            book, slow = Book(), model_book.Book()
            for _ in range(25):
                deed = dice.choice(model_book.WRONG_DEEDS) if dice.randrange(5) == 0 else (
                    model_book.random_right_deed(dice, names))
                found = outcome(book.do, deed)
                self.assertEqual(found, slow.do_all([deed]), deed)
                self.assert_like(book, slow)
                seen[found and found[0]] = seen.get(found and found[0], 0) + 1
                gone = None in slow.state().spans().values()
                seen["gone"] = seen.get("gone", 0) + gone
        for word in (None, "BadDeed", "BadCommand", "BadName", "Taken", "BadSpan", "NoName", "gone"):
            self.assertGreater(seen[word], 10, word)


class AgainstLayouts(BookTest):
    def test_layout_and_spans(self):
        dice = random.Random(72)
        for _ in range(80):
            book, commands, named = Book(), [], {}
            for _ in range(dice.randrange(1, 15)):
                if dice.randrange(3) == 0:
                    name, span = dice.choice(some_names(30)), model_book.random_span(dice)
                    if name not in named:
                        book.do(("name", name, span))
                        named[name] = (len(commands), span)
                else:
                    script = model.random_script(dice, 3)
                    book.do_all(script)
                    commands += script
            self.assertEqual(book.layout(), run(commands))
            for name, (at, span) in named.items():
                self.assertEqual(book.span(name), carried(run(commands[at:]), span))
                self.assertEqual(book.span(name), model.carry_by_rows(commands[at:], span))

    def test_undone_commands_do_not_count(self):
        book = Book()
        book.do(("insert", 1, 1))
        book.do(("delete", 0, 0))
        book.undo()
        book.do(("insert", 5, 2))
        self.assertEqual(book.layout(), run([("insert", 1, 1), ("insert", 5, 2)]))


class Errors(BookTest):
    def books(self):
        """Some books, with and without names and with steps that can be redone."""
        several = [Book(), Book(depth=0), full_book(2), full_book(40), Book()]
        for number in range(3):
            several[-1].do_all([("insert", number + 1, 1), ("name", "abc"[number], (number, None))])
        several[-1].undo()
        several[-1].undo()
        return several

    def test_no_deeds(self):
        for book in self.books():
            for item in NO_DEEDS:
                self.assert_refused(book, BadDeed, 0, book.do, item)
                self.assert_refused(book, BadDeed, 0, book.do_all, [item])
                self.assert_refused(book, BadDeed, 0, book.do_all, (item, ()))
                self.assert_refused(book, BadDeed, 1, book.do_all, [("insert", 0, 1), item, ()])

    def test_no_deed_ahead_of_every_other_error(self):
        for wrong in (("insert", -1, 1), ("name", "A", (0, 1)), ("name", "aa", (0, 1)), ("name", "x", (1, 0)),
                      ("unname", "zz")):
            for item in NO_DEEDS:
                book = full_book(2)
                self.assert_refused(book, BadDeed, 1, book.do_all, [wrong, item])
                self.assert_refused(book, BadDeed, 3, book.do_all, [wrong, ("delete", 0, 0), wrong, item, item])
        book = Book()
        self.assert_refused(book, BadDeed, 100, book.do_all, comb_script(101) + [("insert", 1)])

    def test_no_commands(self):
        for book in self.books():
            for item in NO_COMMANDS:
                self.assert_refused(book, BadCommand, 0, book.do, item)
                self.assert_refused(book, BadCommand, 2, book.do_all, [("insert", 0, 1), ("delete", 0, 0), item, item])
                self.assert_refused(book, BadCommand, 0, book.do_all, [item, ("name", "A", (0, 1))])

    def test_no_names(self):
        for book in self.books():
            for name in NO_NAMES:
                for span in [(0, 1), *NO_SPANS[:2]]:
                    self.assert_refused(book, BadName, name, book.do, ("name", name, span))
                self.assert_refused(book, BadName, name, book.do_all, [("insert", 0, 1), ("name", name, (0, 0))])

    def test_taken(self):
        for many in (2, 40):
            book = full_book(many)
            for span in [(0, 1), (0, 0), *NO_SPANS]:
                self.assert_refused(book, Taken, "ab", book.do, ("name", "ab", span))
        book = Book()
        self.assert_refused(book, Taken, "new", book.do_all, [("name", "new", (0, 1)), ("name", "new", (0, 1))])

    def test_full_ahead_of_a_wrong_span(self):
        book = full_book(40)
        for span in [(0, 1), (5, None), *NO_SPANS]:
            self.assert_refused(book, Full, 40, book.do, ("name", "zz", span))

    def test_no_spans(self):
        for many in (0, 39):
            book = full_book(many)
            for span in NO_SPANS:
                self.assert_refused(book, BadSpan, None, book.do, ("name", "zz", span))
                self.assert_refused(book, BadSpan, None, book.do_all, [("name", "zz", span), ("unname", "none")])

    def test_the_first_deed_with_an_error(self):
        wrong = [(("insert", 0, 0), BadCommand, None), (("name", "A", (0, 1)), BadName, "A"),
                 (("name", "aa", (0, 1)), Taken, "aa"), (("name", "x", (1, 0)), BadSpan, None),
                 (("unname", "zz"), NoName, "zz")]
        for first, error, value in wrong:
            for second, *_ in wrong:
                for ahead in ([], [("insert", 2, 1)], [("name", "y", (0, 1)), ("unname", "ab")]):
                    book = full_book(2)
                    expected = len(ahead) if error == BadCommand else value
                    self.assert_refused(book, error, expected, book.do_all, [*ahead, first, second])

    def test_numbers_refer_to_the_sheet_within_the_step(self):
        book = full_book(1)
        self.assertIsNone(book.do_all([("unname", "aa"), ("name", "aa", (3, 4)), ("delete", 0, 2)]))
        self.assertEqual(book.span("aa"), (0, 1))
        self.assert_refused(book, NoName, "aa", book.do_all, [("unname", "aa"), ("unname", "aa")])


class TooMany(BookTest):
    def test_sixty_pieces(self):
        book = Book()
        book.do_all(comb_script(60))
        self.assertEqual(len(book.layout()), 60)
        self.assert_refused(book, TooManyPieces, 60, book.do, ("delete", 70, 70))
        self.assert_refused(book, TooManyPieces, 60, book.do, ("insert", 1, 1))
        self.assert_refused(book, TooManyPieces, 60, book.do_all, [("name", "a", (0, 1)), ("delete", 70, 70)])
        book.do(("name", "a", (0, 1)))
        book.do(("delete", 0, 0))
        book.do(("insert", 5, 1))
        self.assertEqual((len(book.layout()), book.span("a")), (60, (0, 0)))

    def test_only_the_end_of_the_step_counts(self):
        book = Book()
        book.do_all(comb_script(390) + [("name", "a", (3, 5)), ("delete", 4, 395)])
        self.assertEqual((len(book.layout()), book.span("a"), book.steps()), (5, (3, 3), (1, 0)))
        book = Book()
        self.assert_refused(book, TooManyPieces, 60, book.do_all, comb_script(61))
        book.do_all(comb_script(61) + [("delete", 0, 0)])
        self.assertEqual(len(book.layout()), 60)

    def test_behind_all_other_errors(self):
        for wrong, error, value in [(("insert", 0, 0), BadCommand, 60), (("name", "A", (0, 1)), BadName, "A"),
                                    (("name", "a", (1, 0)), BadSpan, None), (("unname", "zz"), NoName, "zz")]:
            book = Book()
            self.assert_refused(book, error, value, book.do_all, [*comb_script(61), wrong])


class WholeSteps(BookTest):
    def test_one_step(self):
        deeds = [("insert", 2, 3), ("name", "mid", (1, 4)), ("delete", 0, 2), ("name", "b", (0, None)),
                 ("unname", "mid"), ("name", "mid", (5, 5)), ("insert", 5, 2)]
        for several in (deeds, tuple(deeds)):
            book = Book()
            self.assertIsNone(book.do_all(several))
            self.assertEqual(book.steps(), (1, 0))
            self.assertEqual(spans_of(book), {"mid": (7, 7), "b": (0, None)})
            self.assertEqual(book, book_with(deeds))
            book.undo()
            self.assertEqual(book, Book())
        self.assertEqual(deeds[0], ("insert", 2, 3))
        self.assertEqual(len(deeds), 7)

    def test_the_book_keeps_no_list(self):
        deeds = [("insert", 2, 3), ("name", "mid", (1, 4))]
        book = Book()
        book.do_all(deeds)
        deeds.clear()
        book.undo()
        book.redo()
        self.assertEqual((spans_of(book), book.layout()), ({"mid": (1, 4)}, run([("insert", 2, 3)])))

    def test_an_empty_step_counts(self):
        book = full_book(1)
        for deeds in ([], ()):
            before = book.twin()
            steps = book.steps()[0]
            self.assertIsNone(book.do_all(deeds))
            self.assertEqual((book.steps(), book == before), ((steps + 1, 0), True))
        book.undo()
        book.do_all([])
        self.assertEqual(book.steps(), (3, 0))
        book.undo()
        book.undo()
        self.assertEqual((book.steps(), book.names()), ((1, 2), ["aa"]))

    def test_do_is_a_step_of_one_deed(self):
        for deed in (("insert", 1, 2), ("delete", 0, 3), ("name", "zz", (4, None)), ("unname", "aa")):
            one, other = full_book(3), full_book(3)
            one.do(deed)
            other.do_all([deed])
            self.assertEqual(picture(one), picture(other))

    def test_long_steps(self):
        deeds = [("insert", 1, 1), ("delete", 1, 1)] * 199 + [("name", "a", (0, 3)), ("insert", 2, 9)]
        book = Book()
        book.do_all(deeds)
        self.assertEqual((len(deeds), book.steps(), book.span("a")), (400, (1, 0), (0, 12)))
        book = Book()
        deeds[398:398] = [("insert", 0, 0)]
        self.assert_refused(book, BadCommand, 398, book.do_all, deeds)

    def test_redo_stays_behind_an_error(self):
        book = book_with([("insert", 1, 1), ("name", "a", (0, 4)), ("delete", 2, 2)])
        book.undo()
        book.undo()
        for deeds in ([("insert", 0, 0)], [("insert", 0, 1), ("unname", "a")], [()], comb_script(62)):
            self.assertIsNotNone(outcome(book.do_all, deeds))
            self.assertEqual(book.steps(), (1, 2))
        book.redo()
        book.redo()
        self.assertEqual(book, book_with([("insert", 1, 1), ("name", "a", (0, 4)), ("delete", 2, 2)]))

    def test_random_steps(self):
        dice = random.Random(73)
        refused = 0
        for _ in range(60):
            book, slow = Book(), model_book.Book()
            for _ in range(12):
                deeds = model_book.random_deeds(dice, ["a", "b", "c"])
                found = outcome(book.do_all, tuple(deeds) if dice.randrange(2) else deeds)
                self.assertEqual(found, slow.do_all(deeds), deeds)
                self.assert_like(book, slow)
                refused += found is not None
        self.assertGreater(refused, 100)


class ManyNames(BookTest):
    def test_38_to_41_names(self):
        book = Book()
        for at, name in enumerate(some_names(40)):
            self.assertEqual(len(book), at)
            book.do(("name", name, (at, None)))
        self.assertEqual((len(book), repr(book), book.names()), (40, "Book(40 names)", some_names(40)))
        self.assert_refused(book, Full, 40, book.do, ("name", "zz", (0, 0)))

    def test_in_one_step(self):
        deeds = [("name", name, (0, at)) for at, name in enumerate(some_names(42))]
        for many in (38, 39, 40):
            book = Book()
            book.do_all(deeds[:many])
            self.assertEqual(len(book), many)
            if many < 40:
                book.do_all(deeds[many:40])
            self.assert_refused(book, Full, 40, book.do, deeds[40])
            self.assert_refused(book, Full, 40, book.do_all, [("insert", 0, 1), deeds[41]])
        for many in (41, 42):
            book = Book()
            self.assert_refused(book, Full, 40, book.do_all, deeds[:many])
            self.assert_refused(book, Full, 40, book.do_all, deeds[:many] + [("insert", 0, 0)])
            self.assert_refused(book, BadCommand, 3, book.do_all, deeds[:3] + [("insert", 0, 0)] + deeds[3:many])

    def test_room_behind_unname(self):
        book = full_book(40)
        book.do_all([("unname", "ac"), ("name", "zz", (1, 1))])
        self.assert_refused(book, Full, 40, book.do, ("name", "ac", (0, 0)))
        self.assert_refused(book, Full, 40, book.do_all, [("name", "ac", (0, 0)), ("unname", "zz")])
        book.do(("unname", "zz"))
        book.do(("name", "ac", (0, 0)))
        self.assertEqual(len(book), 40)

    def test_room_behind_undo(self):
        book = full_book(40)
        book.undo()
        book.do(("name", "zz", (0, 0)))
        self.assertEqual((len(book), "zz" in book.names()), (40, True))
        self.assert_refused(book, Full, 40, book.do, ("name", "yy", (0, 0)))

    def test_names_of_gone_spans_take_room(self):
        book = full_book(40)
        book.do(("delete", 0, 100))
        self.assertEqual(set(spans_of(book).values()), {None})
        self.assert_refused(book, Full, 40, book.do, ("name", "zz", (0, 0)))


class Queries(BookTest):
    def test_returned_lists_are_new(self):
        book = full_book(3)
        book.do(("insert", 1, 2))
        before = picture(book)
        book.names().append("zz")
        book.names().clear()
        book.layout().pieces().clear()
        self.assertEqual(picture(book), before)

    def test_a_layout_stays_as_it_was(self):
        book = Book()
        first = book.layout()
        book.do(("insert", 1, 2))
        self.assertEqual((first, book.layout()), (Layout.plain(), run([("insert", 1, 2)])))


if __name__ == "__main__":
    unittest.main()
