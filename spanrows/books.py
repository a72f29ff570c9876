"""Books: a sheet of rows with named spans and watches, whose steps can be undone and redone."""

from spanrows.errors import BadCommand, BadCount, BadDeed, BadName, Full, NoName, NothingLeft, Taken
from spanrows.layouts import Layout
from spanrows.pieces import carried_by, starts_of
from spanrows.scripts import command_pieces, is_command, run
from spanrows.spans import check_span

LETTERS = "abcdefghijklmnopqrstuvwxyz"
MOST_LETTERS = 8
# The words of the deeds, each with the number of items of such a deed.
SIZES = {"insert": 3, "delete": 3, "name": 3, "unname": 2}


def is_name(text):
    """Whether a text is a name."""
    return 1 <= len(text) <= MOST_LETTERS and all([letter in LETTERS for letter in text])


def is_deed(item):
    """Whether an item has the form of a deed; whether the book can do it is not asked here."""
    return isinstance(item, tuple) and len(item) > 0 and len(item) == SIZES.get(item[0])


def check_deeds(deeds):
    for at, item in enumerate(deeds):
        if not is_deed(item):
            raise BadDeed(at)


def check_depth(number):
    if number < 0 or number > Book.MOST_DEPTH:
        raise BadCount(number)


def check_known(spans, name):
    if name not in spans:
        raise NoName(name)


def check_naming(spans, name, span):
    if not is_name(name):
        raise BadName(name)
    if name in spans:
        raise Taken(name)
    if len(spans) >= Book.LIMIT:
        raise Full(Book.LIMIT)
    check_span(span)


def carried_spans(spans, command):
    """The named spans behind a command."""
    pieces = command_pieces(command)
    starts = starts_of(pieces)
    return {name: None if spans[name] is None else carried_by(pieces, starts, spans[name]) for name in spans}


def spans_behind(spans, deed, at):
    """The named spans behind a deed, which stands at this index in its step."""
    if deed[0] == "name":
        check_naming(spans, deed[1], deed[2])
        return {**spans, deed[1]: deed[2]}
    if deed[0] == "unname":
        check_known(spans, deed[1])
        return {name: spans[name] for name in spans if name != deed[1]}
    if not is_command(deed):
        raise BadCommand(at)
    return carried_spans(spans, deed)


def state_behind(state, deeds):
    """The state of a book, its layout and its dict of named spans, behind all deeds of a step."""
    layout, spans = state
    for at, deed in enumerate(deeds):
        spans = spans_behind(spans, deed, at)
    commands = [deed for deed in deeds if is_command(deed)]
    # The number of pieces is limited at the end of the step only, and this error comes behind those of all deeds.
    return (run(commands, start=layout), spans)


class Book:
    """A book. No state of it is ever changed; a step puts another one in its place."""

    LIMIT = 40
    MOST_DEPTH = 100

    def __init__(self, *, depth=100):
        check_depth(depth)
        self.most_steps = depth
        self.state = (Layout.plain(), {})
        # The states to which undo and redo return, the next one last.
        self.earlier = []
        self.later = []
        # Tuples of a name, a watch and the span that the watch was told last.
        self.attached = []

    @property
    def depth(self):
        """How many steps can be undone at most."""
        return self.most_steps

    @depth.setter
    def depth(self, value):
        check_depth(value)
        self.most_steps = value
        self.give_up_oldest()

    def change_depth(self, value):
        """Assigns the value to the depth."""
        self.depth = value

    def do(self, deed):
        """Does one deed as a step."""
        self.do_all([deed])

    def do_all(self, deeds):
        """Does all deeds of a list as one step, or none of them."""
        check_deeds(deeds)
        state = state_behind(self.state, deeds)
        self.later = []
        self.step_to(state)

    def undo(self):
        """Undoes the last step."""
        if not self.earlier:
            raise NothingLeft()
        self.later.append(self.state)
        self.state = self.earlier.pop()
        self.tell_watches()

    def redo(self):
        """Redoes the step that was undone last."""
        if not self.later:
            raise NothingLeft()
        self.step_to(self.later.pop())

    def step_to(self, state):
        self.earlier.append(self.state)
        self.state = state
        self.give_up_oldest()
        self.tell_watches()

    def give_up_oldest(self):
        """Keeps no more steps for undo than the depth says."""
        self.earlier = self.earlier[max(0, len(self.earlier) - self.most_steps):]

    def tell_watches(self):
        """Tells each watch whose name exists the span of the name, unless it was told this one last."""
        spans = self.state[1]
        kept = []
        for name, watch, last in self.attached:
            span = spans.get(name, last)
            if span != last:
                watch.note(span)
            kept.append((name, watch, span))
        self.attached = kept

    def steps(self):
        """How many steps can be undone, and how many can be redone."""
        return (len(self.earlier), len(self.later))

    def names(self):
        """The ascending list of the names."""
        return sorted(self.state[1])

    def span(self, name):
        """The span of a name, or None if it is gone."""
        spans = self.state[1]
        check_known(spans, name)
        return spans[name]

    def layout(self):
        """The layout of all commands that are not undone."""
        return self.state[0]

    def attach(self, name, watch):
        """Attaches a watch to a name and tells it the span."""
        span = self.span(name)
        self.attached.append((name, watch, span))
        watch.note(span)

    def twin(self):
        """An independent book with the same rows, names, steps and depth, without watches."""
        other = Book(depth=self.most_steps)
        other.state = self.state
        other.earlier = list(self.earlier)
        other.later = list(self.later)
        return other

    def __eq__(self, other):
        return isinstance(other, Book) and self.state == other.state

    def __len__(self):
        return len(self.state[1])

    def __repr__(self):
        return f"Book({len(self.state[1])} names)"
