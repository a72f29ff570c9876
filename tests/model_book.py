"""A slow model of books: every named span is followed row by row, and every state is kept whole.

Nothing here uses the package.
"""

import copy
import string

from tests import model

ROWS = 500
MOST_PIECES = 60
MOST_NAMES = 40
SIZES = {"insert": 3, "delete": 3, "name": 3, "unname": 2}


class Refused(Exception):
    """The word of the error that the document asks for, and the value of its attribute, or None."""

    def __init__(self, word, value=None):
        Exception.__init__(self, word, value)
        self.outcome = (word, value)


class State:
    """Rows by their labels, and for each name whether each row belongs to its span."""

    def __init__(self):
        self.rows = [(number, number) for number in range(ROWS)]
        self.inside = {}
        self.endless = {}

    def insert(self, at, count):
        above = self.rows[at - 1] if at > 0 else None
        label = None if above is None else (above[0], self.rows[at][1])
        self.rows[at:at] = [label] * count
        for name, inside in self.inside.items():
            inside[at:at] = [at > 0 and inside[at - 1] and inside[at]] * count

    def delete(self, first, last):
        for numbers in [self.rows, *self.inside.values()]:
            del numbers[first:last + 1]

    def add(self, name, span):
        first, last = span
        self.inside[name] = [first <= number and (last is None or number <= last) for number in range(len(self.rows))]
        self.endless[name] = last is None

    def span(self, name):
        return model.span_of(self.inside[name], self.endless[name])

    def spans(self):
        return {name: self.span(name) for name in self.inside}

    def pieces(self):
        return model.pieces_of(self.rows)


def is_span(span):
    first, last = span
    return first >= 0 and (last is None or first <= last)


def is_name(text):
    return len(text) in range(1, 9) and set(text) <= set(string.ascii_lowercase)


def change(state, at, deed):
    """Changes a state by the deed with this index, or raises Refused."""
    word, *rest = deed
    if word == "name":
        name, span = rest
        for wrong, error in [(not is_name(name), Refused("BadName", name)),
                             (name in state.inside, Refused("Taken", name)),
                             (len(state.inside) == MOST_NAMES, Refused("Full", MOST_NAMES)),
                             (not is_span(span), Refused("BadSpan"))]:
            if wrong:
                raise error
        state.add(name, span)
    elif word == "unname":
        if rest[0] not in state.inside:
            raise Refused("NoName", rest[0])
        del state.inside[rest[0]], state.endless[rest[0]]
    elif rest[0] < 0 or (rest[1] < 1 if word == "insert" else rest[1] < rest[0]):
        raise Refused("BadCommand", at)
    elif word == "insert":
        state.insert(*rest)
    else:
        state.delete(*rest)


class Book:
    """A book by [17] and [18]. Its methods return None, or the outcome of the error that the document asks for."""

    def __init__(self, depth=100):
        self.depth = depth
        # All states that were ever reached on the way to the last one, and where the book is among them.
        self.states = [State()]
        self.now = 0
        self.least = 0
        self.watches = []

    def state(self):
        return self.states[self.now]

    def steps(self):
        return (self.now - self.least, len(self.states) - 1 - self.now)

    def do_all(self, deeds):
        try:
            state = self.behind(deeds)
        except Refused as refused:
            return refused.outcome
        self.states[self.now + 1:] = [state]
        return self.go(self.now + 1)

    def behind(self, deeds):
        for at, deed in enumerate(deeds):
            if not deed or len(deed) != SIZES.get(deed[0]):
                raise Refused("BadDeed", at)
        state = copy.deepcopy(self.state())
        for at, deed in enumerate(deeds):
            change(state, at, deed)
        if len(state.pieces()) > MOST_PIECES:
            raise Refused("TooManyPieces", MOST_PIECES)
        return state

    def undo(self):
        return self.go(self.now - 1) if self.now > self.least else ("NothingLeft", None)

    def redo(self):
        return self.go(self.now + 1) if self.now < len(self.states) - 1 else ("NothingLeft", None)

    def change_depth(self, value):
        if value not in range(101):
            return ("BadCount", value)
        self.depth = value
        self.give_up()
        return None

    def give_up(self):
        self.least = max(self.least, self.now - self.depth)

    def go(self, now):
        self.now = now
        self.give_up()
        for name, told in self.watches:
            if name in self.state().inside and self.state().span(name) != told[-1]:
                told.append(self.state().span(name))

    def attach(self, name):
        """Returns the list of what the watch is told, which grows; or the outcome."""
        if name not in self.state().inside:
            return ("NoName", name)
        self.watches.append((name, [self.state().span(name)]))
        return self.watches[-1][1]


def random_span(dice, reach=9):
    first = dice.randrange(reach)
    return (first, dice.choice([None, first, first + dice.randrange(reach), first + dice.randrange(reach)]))


def random_right_deed(dice, names):
    """A deed that may be refused for its name only."""
    choice = dice.randrange(8)
    if choice < 2:
        return ("insert", dice.randrange(12), dice.randrange(1, 4))
    if choice < 5:
        first = dice.randrange(12)
        return ("delete", first, first + dice.randrange(4))
    if choice < 7:
        return ("name", dice.choice(names), random_span(dice))
    return ("unname", dice.choice(names))


WRONG_DEEDS = [(), ("insert", 1), ("rename", "a", "b"), ("name", "a"), ("unname", "a", (0, 1)), ("insert", -1, 1),
               ("insert", 0, 0), ("delete", 3, 2), ("delete", -1, 4), ("name", "A", (0, 1)), ("name", "", (0, 1)),
               ("name", "zz", (3, 2)), ("name", "zz", (-1, None)), ("unname", "zz"), ("unname", "Zz")]


def random_deeds(dice, names, most=4):
    deeds = [random_right_deed(dice, names) for _ in range(dice.randrange(most + 1))]
    while dice.randrange(6) == 0:
        deeds.insert(dice.randrange(len(deeds) + 1), dice.choice(WRONG_DEEDS))
    return deeds
