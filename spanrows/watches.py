"""Watches: what is told the span of a name whenever it changes."""


class Watch:
    """A watch that knows the last span that it was told, and how many there were."""

    def __init__(self):
        self.notes = 0
        self.seen = None

    def note(self, span):
        """Tells the watch a span, or None for a span that is gone."""
        self.notes += 1
        self.seen = span


class Journal(Watch):
    """A watch that keeps all spans that it was told."""

    def __init__(self):
        super().__init__()
        self.spans = []

    def note(self, span):
        """Tells the journal a span, or None for a span that is gone."""
        super().note(span)
        self.spans.append(span)

    def told(self):
        """The list of all spans that the journal was told, in order."""
        return list(self.spans)


def has_fewer_rows(span, other):
    if span[1] is None:
        return False
    return other[1] is None or span[1] - span[0] < other[1] - other[0]


def is_loss(before, span):
    """Whether rows are lost between two spans that were told one behind the other; each may be None."""
    if before is None:
        return False
    return span is None or has_fewer_rows(span, before)


class Alarm(Journal):
    """A journal that counts how often a span lost rows."""

    def __init__(self):
        super().__init__()
        self.alarms = 0

    def note(self, span):
        """Tells the alarm a span, or None for a span that is gone."""
        if is_loss(self.seen, span):
            self.alarms += 1
        super().note(span)

    def told(self):
        """The list of all spans that the alarm was told, in order."""
        return super().told()
