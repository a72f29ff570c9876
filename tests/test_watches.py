"""Watches, journals and alarms."""

import itertools
import unittest

from spanrows.watches import Alarm, Journal, Watch

GREAT = 10 ** 30 - 1
SPANS = [None, (0, 0), (2, 5), (3, 5), (3, 6), (0, None), (GREAT, None), (GREAT, GREAT), (0, GREAT)]


def row_count(span):
    """How many rows a span has; None for all those of an open one."""
    return None if span[1] is None else span[1] - span[0] + 1


def lost(before, span):
    """The rule for alarms, from its words."""
    if before is None:
        return False
    if span is None:
        return True
    if row_count(span) is None:
        return False
    return row_count(before) is None or row_count(span) < row_count(before)


class Watches(unittest.TestCase):
    def test_new_ones(self):
        for kind in (Watch, Journal, Alarm):
            watch = kind()
            self.assertEqual((watch.notes, watch.seen), (0, None))
        self.assertEqual((Journal().told(), Alarm().told(), Alarm().alarms), ([], [], 0))

    def test_families(self):
        self.assertEqual((Journal.__bases__, Alarm.__bases__), ((Watch,), (Journal,)))
        for kind in (Watch, Journal, Alarm):
            self.assertIn("note", vars(kind))
        for kind in (Journal, Alarm):
            self.assertIn("told", vars(kind))

    def test_a_watch_has_no_list(self):
        watch = Watch()
        watch.note((1, 2))
        self.assertFalse(hasattr(watch, "told") or hasattr(watch, "alarms") or hasattr(Journal(), "alarms"))

    def test_behind_each_note(self):
        for told in itertools.product(SPANS, repeat=3):
            watch, journal, alarm = Watch(), Journal(), Alarm()
            alarms = 0
            for at, span in enumerate(told):
                for kind in (watch, journal, alarm):
                    self.assertIsNone(kind.note(span))
                    self.assertEqual((kind.notes, kind.seen), (at + 1, span))
                alarms += at > 0 and lost(told[at - 1], span)
                self.assertEqual(journal.told(), list(told[:at + 1]))
                self.assertEqual(alarm.told(), list(told[:at + 1]))
                self.assertEqual(alarm.alarms, alarms, told)

    def test_alarms(self):
        for told, alarms in [([None], 0), ([None, None], 0), ([(0, 0)], 0), ([(0, 0), None], 1),
                             ([(0, 0), None, None], 1), ([(0, 0), None, (0, 0)], 0 + 1), ([None, (0, 0), None], 1),
                             ([(2, 5), (3, 6)], 0), ([(2, 5), (3, 5)], 1), ([(2, 5), (2, 4), (2, 3)], 2),
                             ([(2, 5), (2, 6)], 0), ([(2, 5), (0, 2)], 1), ([(0, 2), (7, 9), (9, 10)], 1),
                             ([(0, None), (9, None)], 0), ([(9, None), (0, None)], 0), ([(0, None), (0, GREAT)], 1),
                             ([(0, GREAT), (5, None)], 0), ([(5, None), None], 1), ([(1, 1), (1, 1)], 0),
                             ([(0, 5), None, (0, 1), (0, 0)], 2)]:
            alarm = Alarm()
            for span in told:
                alarm.note(span)
            self.assertEqual(alarm.alarms, alarms, told)
            self.assertEqual((alarm.notes, alarm.told()), (len(told), told))

    def test_note_by_name(self):
        for kind in (Watch, Journal, Alarm):
            watch = kind()
            watch.note(span=(4, None))
            self.assertEqual((watch.notes, watch.seen), (1, (4, None)))

    def test_a_returned_list_is_new(self):
        for kind in (Journal, Alarm):
            watch = kind()
            watch.note((1, 2))
            first = watch.told()
            first.append("more")
            first[0] = None
            self.assertEqual(watch.told(), [(1, 2)])
            second = watch.told()
            watch.note(None)
            self.assertEqual(second, [(1, 2)])
            self.assertEqual((watch.told(), watch.notes, watch.seen), ([(1, 2), None], 2, None))

    def test_each_has_its_own(self):
        for kind in (Watch, Journal, Alarm):
            one, other = kind(), kind()
            one.note((3, 4))
            one.note(None)
            self.assertEqual((other.notes, other.seen), (0, None))
            if kind != Watch:
                self.assertEqual(other.told(), [])
        self.assertEqual(other.alarms, 0)


if __name__ == "__main__":
    unittest.main()
