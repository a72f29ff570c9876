"""What a book tells the watches that are attached to its names."""

import random
import unittest

from spanrows.books import Book
from spanrows.errors import NoName
from spanrows.watches import Alarm, Journal, Watch
from tests import model_book
from tests.test_books import NO_NAMES, BookTest, book_with, outcome
from tests.test_scripts import comb_script


def watched(deeds, name):
    """A book and a journal that is attached to a name behind the deeds."""
    book, journal = book_with(deeds), Journal()
    book.attach(name, journal)
    return book, journal


class Attach(BookTest):
    def test_the_span_is_told_at_once(self):
        for deeds, span in [([("name", "a", (1, 4))], (1, 4)), ([("name", "a", (3, None))], (3, None)),
                            ([("name", "a", (1, 4)), ("insert", 2, 1)], (1, 5)),
                            ([("name", "a", (1, 4)), ("delete", 0, 5)], None)]:
            for kind in (Watch, Journal, Alarm):
                book, watch = book_with(deeds), kind()
                steps = book.steps()
                self.assertIsNone(book.attach("a", watch))
                self.assertEqual((watch.notes, watch.seen), (1, span))
                self.assertEqual(book.steps(), steps)

    def test_by_name(self):
        book, watch = book_with([("name", "a", (1, 4))]), Watch()
        book.attach(watch=watch, name="a")
        self.assertEqual(watch.notes, 1)

    def test_no_name(self):
        for name in ["b", "zz", *NO_NAMES]:
            book, watch = book_with([("name", "a", (1, 4))]), Journal()
            self.assert_refused(book, NoName, name, book.attach, name, watch)
            self.assertEqual((watch.notes, watch.seen, watch.told()), (0, None, []))
            if name == "b":
                book.do(("name", "b", (0, 0)))
                self.assertEqual(watch.notes, 0)

    def test_a_watch_that_was_told_before(self):
        watch = Journal()
        watch.note((1, 4))
        book = book_with([("name", "a", (1, 4))])
        book.attach("a", watch)
        self.assertEqual(watch.told(), [(1, 4), (1, 4)])
        book.do(("insert", 9, 1))
        self.assertEqual(watch.notes, 2)


class Told(BookTest):
    def test_behind_each_step(self):
        book, journal = watched([("name", "a", (2, 4))], "a")
        expected = [(2, 4)]
        for deed, span in [(("insert", 9, 1), None), (("insert", 0, 1), (3, 5)), (("delete", 9, 9), None),
                           (("name", "b", (0, 0)), None), (("insert", 4, 2), (3, 7)), (("unname", "b"), None),
                           (("delete", 3, 3), (3, 6)), (("insert", 7, 1), None)]:
            book.do(deed)
            expected += [] if span is None else [span]
            self.assertEqual((journal.told(), journal.seen), (expected, book.span("a")))

    def test_a_span_that_is_gone_is_told_once(self):
        book, journal = watched([("name", "a", (2, 4))], "a")
        book.do(("delete", 0, 9))
        book.do(("insert", 0, 9))
        book.do(("delete", 0, 1))
        self.assertEqual(journal.told(), [(2, 4), None])
        book.undo()
        book.undo()
        self.assertEqual(journal.told(), [(2, 4), None])
        book.undo()
        self.assertEqual(journal.told(), [(2, 4), None, (2, 4)])

    def test_only_the_end_of_a_step_counts(self):
        book, journal = watched([("name", "a", (2, 4))], "a")
        book.do_all([("insert", 0, 1), ("insert", 4, 1), ("delete", 3, 3)])
        self.assertEqual(journal.told(), [(2, 4), (3, 5)])
        book.do_all([("insert", 0, 1), ("delete", 0, 0)])
        book.do_all([("unname", "a"), ("name", "a", (3, 5))])
        book.do_all([])
        self.assertEqual(journal.told(), [(2, 4), (3, 5)])
        book.do_all([("unname", "a"), ("name", "a", (3, 6))])
        self.assertEqual(journal.told(), [(2, 4), (3, 5), (3, 6)])

    def test_undo_and_redo(self):
        book, journal = watched([("name", "a", (2, 4)), ("insert", 0, 1)], "a")
        book.do(("insert", 20, 1))
        for call, span in [(book.undo, None), (book.undo, (2, 4)), (book.redo, (3, 5)), (book.redo, None),
                           (book.undo, None), (book.undo, (2, 4))]:
            many = journal.notes
            call()
            self.assertEqual(journal.told()[many:], [] if span is None else [span])

    def test_undo_of_the_naming(self):
        book, journal = watched([("name", "a", (2, 4))], "a")
        book.undo()
        self.assertEqual(journal.told(), [(2, 4)])
        book.redo()
        self.assertEqual(journal.told(), [(2, 4)])
        book.undo()
        book.do(("name", "a", (2, 5)))
        self.assertEqual(journal.told(), [(2, 4), (2, 5)])

    def test_unnamed_and_named_again(self):
        book, journal = watched([("name", "a", (2, 4))], "a")
        book.do(("unname", "a"))
        book.do(("insert", 0, 1))
        book.do(("name", "b", (9, 9)))
        self.assertEqual(journal.told(), [(2, 4)])
        book.do(("name", "a", (2, 4)))
        self.assertEqual(journal.told(), [(2, 4)])
        book.do(("unname", "a"))
        book.do(("name", "a", (7, None)))
        self.assertEqual(journal.told(), [(2, 4), (7, None)])
        book.do(("insert", 0, 1))
        self.assertEqual(journal.told(), [(2, 4), (7, None), (8, None)])
        for _ in range(4):
            book.undo()
        self.assertEqual(journal.told(), [(2, 4), (7, None), (8, None), (7, None), (2, 4)])

    def test_named_again_gone(self):
        book, journal = watched([("name", "a", (2, 4)), ("delete", 0, 9)], "a")
        book.do(("unname", "a"))
        book.do_all([("name", "a", (1, 1)), ("delete", 1, 1)])
        self.assertEqual(journal.told(), [None])

    def test_refused_steps_tell_nothing(self):
        book, journal = watched([("insert", 1, 1), ("name", "a", (2, 4))], "a")
        for deeds in ([("insert", 0, 1), ("insert", 0, 0)], [("delete", 0, 9), ()], [("delete", 0, 9), ("unname", "b")],
                      [("unname", "a"), ("name", "a", (4, 2))], comb_script(80)):
            self.assertIsNotNone(outcome(book.do_all, deeds))
        self.assertEqual(outcome(book.redo), ("NothingLeft", None))
        self.assertEqual(outcome(book.change_depth, 101), ("BadCount", 101))
        book.change_depth(0)
        self.assertEqual(outcome(book.undo), ("NothingLeft", None))
        self.assertEqual((journal.told(), journal.seen), ([(2, 4)], (2, 4)))

    def test_several_watches(self):
        book = book_with([("name", "a", (2, 4)), ("name", "b", (0, 0))])
        watches = [Watch(), Journal(), Alarm(), Journal()]
        for name, watch in zip("aaba", watches):
            book.attach(name, watch)
            book.do(("insert", 3, 1))
        book.do(("delete", 0, 0))
        self.assertEqual(watches[0].notes, 6)
        self.assertEqual(watches[1].told(), [(2, 5), (2, 6), (2, 7), (2, 8), (1, 7)])
        self.assertEqual((watches[2].told(), watches[2].alarms), ([(0, 0), None], 1))
        self.assertEqual(watches[3].told(), [(2, 7), (2, 8), (1, 7)])

    def test_alarms(self):
        book, alarm = book_with([("name", "a", (2, 9))]), Alarm()
        book.attach("a", alarm)
        for deed, alarms in [(("insert", 0, 1), 0), (("insert", 5, 1), 0), (("delete", 0, 1), 0), (("delete", 2, 2), 1),
                             (("delete", 40, 40), 1), (("delete", 0, 40), 2), (("insert", 0, 5), 2)]:
            book.do(deed)
            self.assertEqual(alarm.alarms, alarms)
        for alarms in (2, 2, 2, 2, 2, 3, 3):
            book.undo()
            self.assertEqual(alarm.alarms, alarms, alarm.told())

    def test_twins_have_no_watches(self):
        book, journal = watched([("name", "a", (2, 4))], "a")
        twin = book.twin()
        twin.do(("insert", 0, 1))
        twin.undo()
        twin.undo()
        twin.redo()
        self.assertEqual(journal.told(), [(2, 4)])
        book.do(("insert", 0, 2))
        self.assertEqual(journal.told(), [(2, 4), (4, 6)])
        other = Journal()
        twin.attach("a", other)
        twin.do(("insert", 0, 1))
        self.assertEqual((journal.notes, other.told()), (2, [(2, 4), (3, 5)]))

    def test_random_moves(self):
        dice = random.Random(91)
        most = 0
        for _ in range(60):
            depth = dice.choice([2, 100])
            book, slow = Book(depth=depth), model_book.Book(depth)
            pairs = []
            for _ in range(50):
                self.move(dice, book, slow, pairs)
                for journal, told in pairs:
                    self.assertEqual(journal.told(), told)
            most = max([most] + [len(told) for journal, told in pairs])
        self.assertGreater(most, 10)

    def move(self, dice, book, slow, pairs):
        choice = dice.randrange(8)
        if choice == 0:
            name, journal = dice.choice(["a", "b", "c"]), Journal()
            told = slow.attach(name)
            found = outcome(book.attach, name, journal)
            self.assertEqual(found, told if isinstance(told, tuple) else None)
            pairs += [] if isinstance(told, tuple) else [(journal, told)]
        elif choice < 4:
            move = dice.choice(["undo", "redo"])
            self.assertEqual(outcome(getattr(book, move)), getattr(slow, move)())
        else:
            deeds = model_book.random_deeds(dice, ["a", "b", "c"], 3)
            self.assertEqual(outcome(book.do_all, deeds), slow.do_all(deeds))


if __name__ == "__main__":
    unittest.main()
