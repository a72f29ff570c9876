"""Undo, redo, the numbers of steps and the depth of books."""

import random
import unittest

from spanrows.books import Book
from spanrows.errors import BadCount, NothingLeft
from spanrows.layouts import Layout
from spanrows.scripts import run
from tests import model_book
from tests.test_books import GREAT, BookTest, book_with, outcome, picture, spans_of

NO_DEPTHS = [-1, 101, 102, -100, GREAT, -GREAT]


def stepped(many, depth=100):
    """A book with so many steps; the top rows count them."""
    return book_with([("insert", 0, 1)] * many, depth=depth)


def tops(book):
    return book.layout().top


class UndoAndRedo(BookTest):
    def test_at_every_point(self):
        deeds = [("name", "a", (1, 4)), ("insert", 2, 1), ("delete", 0, 1), ("unname", "a"), ("name", "a", (0, None)),
                 ("name", "b", (2, 2)), ("delete", 2, 2), ("insert", 2, 1)]
        book = Book()
        states = [(book.layout(), spans_of(book))]
        for deed in deeds:
            book.do(deed)
            states.append((book.layout(), spans_of(book)))
        many = len(deeds)
        for _ in range(2):
            for now in range(many - 1, -1, -1):
                self.assertIsNone(book.undo())
                self.assertEqual((book.layout(), spans_of(book)), states[now])
                self.assertEqual((book.steps(), book.names()), ((now, many - now), sorted(states[now][1])))
            self.assert_refused(book, NothingLeft, None, book.undo)
            for now in range(1, many + 1):
                self.assertIsNone(book.redo())
                self.assertEqual((book.layout(), spans_of(book)), states[now])
                self.assertEqual(book.steps(), (now, many - now))
            self.assert_refused(book, NothingLeft, None, book.redo)

    def test_nothing_left(self):
        book = Book()
        self.assert_refused(book, NothingLeft, None, book.undo)
        self.assert_refused(book, NothingLeft, None, book.redo)
        with self.assertRaises(IndexError):
            book.undo()

    def test_a_span_that_was_gone_comes_back(self):
        book = book_with([("name", "a", (1, 2)), ("delete", 0, 5)])
        book.undo()
        self.assertEqual(book.span("a"), (1, 2))
        book.redo()
        self.assertIsNone(book.span("a"))

    def test_nothing_to_redo_behind_a_new_step(self):
        for deeds in ([("insert", 0, 1)], [], [("name", "a", (0, 0))], [("insert", 1, 1), ("delete", 1, 1)]):
            book = stepped(5)
            book.undo()
            book.undo()
            book.do_all(deeds)
            self.assertEqual(book.steps(), (4, 0))
            self.assert_refused(book, NothingLeft, None, book.redo)
            book.undo()
            self.assertEqual((tops(book), book.steps()), (3, (3, 1)))

    def test_random_moves(self):
        dice = random.Random(81)
        for _ in range(50):
            depth = dice.choice([0, 1, 2, 3, 5, 100])
            book, slow = Book(depth=depth), model_book.Book(depth)
            for _ in range(30):
                self.move(dice, book, slow)
                self.assert_like(book, slow)

    def move(self, dice, book, slow):
        choice = dice.randrange(9)
        if choice < 3:
            self.assertEqual(outcome(book.undo), slow.undo())
        elif choice < 5:
            self.assertEqual(outcome(book.redo), slow.redo())
        elif choice == 5:
            depth = dice.choice([0, 1, 2, 3, 4, 7, 100, -1, 101])
            self.assertEqual(outcome(book.change_depth, depth), slow.change_depth(depth))
        else:
            deeds = model_book.random_deeds(dice, ["a", "b", "c"], 3)
            self.assertEqual(outcome(book.do_all, deeds), slow.do_all(deeds))


class Depth(BookTest):
    def test_default_and_limits(self):
        self.assertEqual(Book().depth, 100)
        for depth in (0, 1, 57, 99, 100):
            book = Book(depth=depth)
            self.assertEqual(book.depth, depth)
            book = Book()
            book.depth = depth
            self.assertEqual(book.depth, depth)
            book = Book()
            self.assertIsNone(book.change_depth(depth))
            self.assertEqual(book.depth, depth)
            book = Book()
            book.change_depth(value=depth)
            self.assertEqual(book.depth, depth)

    def test_wrong_depths(self):
        for depth in NO_DEPTHS:
            with self.assertRaises(BadCount) as caught:
                Book(depth=depth)
            self.assertEqual(caught.exception.number, depth)
            for book in (Book(), stepped(5, 3), Book(depth=0)):
                self.assert_refused(book, BadCount, depth, book.change_depth, depth)
                self.assert_refused(book, BadCount, depth, self.assign, book, depth)

    def assign(self, book, depth):
        book.depth = depth

    def test_older_steps_are_given_up(self):
        for depth in (1, 2, 7, 59, 99, 100):
            for many in (depth - 1, depth, depth + 1, depth + 2):
                book = stepped(many, depth)
                kept = min(many, depth)
                self.assertEqual((book.steps(), tops(book)), ((kept, 0), many))
                for at in range(kept):
                    book.undo()
                    self.assertEqual((book.steps(), tops(book)), ((kept - at - 1, at + 1), many - at - 1))
                self.assert_refused(book, NothingLeft, None, book.undo)
                self.assertEqual(tops(book), many - kept)
                for at in range(kept):
                    book.redo()
                self.assertEqual((book.steps(), tops(book)), ((kept, 0), many))

    def test_books_of_many_steps(self):
        for many in (60, 61, 99, 100, 101, 102):
            book = stepped(many)
            self.assertEqual((book.steps(), tops(book)), ((min(many, 100), 0), many))
            for _ in range(min(many, 100)):
                book.undo()
            self.assertEqual((book.steps(), tops(book)), ((0, min(many, 100)), max(0, many - 100)))
            self.assert_refused(book, NothingLeft, None, book.undo)

    def test_all_steps_stay_in_the_layout(self):
        commands = [("insert", 3 * number, 1) for number in range(20)]
        book = book_with([*commands, ("name", "a", (0, 90))], depth=2)
        self.assertEqual((book.layout(), book.steps()), (run(commands), (2, 0)))

    def test_depth_0(self):
        book = Book(depth=0)
        for many in range(1, 4):
            book.do(("insert", 0, 1))
            self.assertEqual((book.steps(), tops(book)), ((0, 0), many))
            self.assert_refused(book, NothingLeft, None, book.undo)
            self.assert_refused(book, NothingLeft, None, book.redo)
        book.do(("name", "a", (0, 1)))
        self.assertEqual(book.span("a"), (0, 1))
        book.depth = 1
        self.assertEqual(book.steps(), (0, 0))
        book.do(("insert", 0, 1))
        self.assertEqual(book.steps(), (1, 0))

    def test_less_depth(self):
        for set_depth in (self.assign, lambda book, depth: book.change_depth(depth)):
            for depth in (0, 1, 3, 6, 7, 8, 100):
                book = stepped(10)
                for _ in range(3):
                    book.undo()
                set_depth(book, depth)
                kept = min(7, depth)
                self.assertEqual((book.depth, book.steps(), tops(book)), (depth, (kept, 3), 7))
                other = book.twin()
                for _ in range(kept):
                    other.undo()
                self.assertEqual((other.steps(), tops(other)), ((0, 3 + kept), 7 - kept))
                for at in range(3):
                    book.redo()
                    self.assertEqual((book.steps(), tops(book)), ((min(kept + at + 1, depth), 2 - at), 8 + at))
                self.assert_refused(book, NothingLeft, None, book.redo)

    def test_steps_that_were_given_up_do_not_come_back(self):
        book = stepped(10)
        book.depth = 4
        book.depth = 100
        self.assertEqual(book.steps(), (4, 0))
        book.do(("insert", 0, 1))
        self.assertEqual(book.steps(), (5, 0))

    def test_redo_with_depth_0(self):
        book = stepped(5)
        for _ in range(5):
            book.undo()
        book.depth = 0
        self.assertEqual(book.steps(), (0, 5))
        for at in range(5):
            book.redo()
            self.assertEqual((book.steps(), tops(book)), ((0, 4 - at), at + 1))
        self.assert_refused(book, NothingLeft, None, book.undo)

    def test_more_steps_to_redo_than_the_depth(self):
        book = stepped(100)
        for _ in range(100):
            book.undo()
        book.depth = 30
        for _ in range(50):
            book.redo()
        self.assertEqual((book.steps(), tops(book)), ((30, 50), 50))
        for _ in range(30):
            book.undo()
        self.assertEqual((book.steps(), tops(book)), ((0, 80), 20))

    def test_the_same_depth_changes_nothing(self):
        book = stepped(6, 4)
        book.undo()
        before = picture(book)
        book.depth = 4
        book.change_depth(4)
        self.assertEqual(picture(book), before)

    def test_long_ways(self):
        dice = random.Random(82)
        for depth in (0, 1, 60, 100):
            book, slow = Book(depth=depth), model_book.Book(depth)
            for at in range(110):
                deeds = [model_book.random_right_deed(dice, ["a", "b"]) for _ in range(dice.randrange(2))]
                self.assertEqual(outcome(book.do_all, deeds), slow.do_all(deeds))
                for move in dice.choice([[], [], [], ["undo"], ["undo", "redo"], ["undo", "undo"]]):
                    self.assertEqual(outcome(getattr(book, move)), getattr(slow, move)())
                self.assertEqual(book.steps(), slow.steps())
            self.assert_like(book, slow)
            while slow.steps()[0]:
                book.undo()
                slow.undo()
                self.assert_like(book, slow)
            self.assertEqual(outcome(book.undo), ("NothingLeft", None))


class Twins(BookTest):
    def test_each_goes_its_own_way(self):
        book = book_with([("insert", 1, 2), ("name", "a", (0, 4)), ("delete", 0, 0), ("name", "b", (0, 0))], depth=9)
        book.undo()
        twin = book.twin()
        self.assertIsInstance(twin, Book)
        self.assertEqual(picture(twin), picture(book))
        before = picture(book)
        twin.do(("insert", 0, 7))
        twin.do(("unname", "a"))
        twin.depth = 1
        self.assertEqual(picture(book), before)
        self.assertEqual((twin.steps(), twin.depth, twin.names()), ((1, 0), 1, []))
        second = book.twin()
        book.redo()
        book.do(("delete", 0, 50))
        book.undo()
        book.undo()
        book.undo()
        book.change_depth(0)
        self.assertEqual(picture(second), before)
        self.assertEqual((book.steps(), second.steps()), ((0, 3), (3, 1)))

    def test_twins_of_twins(self):
        book = stepped(3)
        twin = book.twin().twin()
        self.assertEqual(picture(twin), picture(book))
        twin.undo()
        self.assertEqual((tops(book), tops(twin)), (3, 2))

    def test_equal(self):
        one = book_with([("insert", 1, 2), ("name", "a", (0, 4)), ("name", "b", (9, None))])
        same = [one.twin(), book_with([("name", "b", (7, None)), ("insert", 1, 1), ("insert", 1, 1),
                                       ("name", "a", (0, 4))], depth=0),
                book_with([("name", "a", (0, 2)), ("name", "b", (7, None)), ("insert", 1, 2), ("insert", 5, 1),
                           ("delete", 5, 5)])]
        for other in same:
            self.assertTrue(one == other and other == one)
            self.assertFalse(one != other)
        for deeds in ([("insert", 20, 1)], [("delete", 30, 30)], [("unname", "a")], [("name", "c", (0, 0))],
                      [("unname", "a"), ("name", "a", (0, 5))], [("unname", "b"), ("name", "b", (9, 99))],
                      [("unname", "a"), ("name", "aa", (0, 4))], [("insert", 0, 1)]):
            other = one.twin()
            other.do_all(deeds)
            self.assertTrue(one != other and other != one)
            self.assertFalse(one == other)
            other.undo()
            self.assertTrue(one == other)

    def test_gone_is_not_unnamed(self):
        one = book_with([("name", "a", (1, 1)), ("delete", 1, 1)])
        other = book_with([("delete", 1, 1)])
        self.assertFalse(one == other)
        other.do(("name", "a", (1, 1)))
        self.assertFalse(one == other)

    def test_equal_to_nothing_else(self):
        book = book_with([("name", "a", (0, 1))])
        for thing in (None, 0, 1, "Book(1 names)", [], (), {}, {"a": (0, 1)}, Layout.plain(), (Layout.plain(), {}),
                      (Layout.plain(), {"a": (0, 1)}), book.state, model_book.Book(), Book):
            self.assertFalse(book == thing)
            self.assertTrue(book != thing)

    def test_len_and_repr(self):
        book = Book()
        for many in range(3):
            self.assertEqual((len(book), repr(book)), (many, f"Book({many} names)"))
            book.do(("name", "abc"[many], (0, None)))
        book.do(("delete", 0, 9))
        self.assertEqual((len(book), repr(book)), (3, "Book(3 names)"))


if __name__ == "__main__":
    unittest.main()
