"""A console that runs lines on a book."""

from spanrows.errors import NoName, NothingLeft, SpanError
from spanrows.needs import fewest
from spanrows.pieces import read_number
from spanrows.texts import layout_text

# The first words of all lines, each with the kinds of the words behind it.
FORMS = {
    "insert": ("number", "number"),
    "delete": ("number", "number"),
    "name": ("name", "number", "last"),
    "unname": ("name",),
    "undo": (),
    "redo": (),
    "names": (),
    "span": ("name",),
    "layout": (),
    "fewest": (),
    "row": ("number",),
    "where": ("number",),
}
CHANGES = ("insert", "delete", "name", "unname", "undo", "redo")


def is_written(word, kind):
    """Whether a word of a line can stand for a kind of words."""
    if kind == "name":
        return word != ""
    return read_number(word) is not None or (kind == "last" and word == "-")


def is_form(word, words):
    """Whether a line with this first word and these other words is one that a console runs."""
    if word not in FORMS or len(words) != len(FORMS[word]):
        return False
    return all([is_written(other, kind) for other, kind in zip(words, FORMS[word])])


def deed_of(word, words):
    """The deed that a line writes."""
    if word == "unname":
        return (word, words[0])
    # The `-` of an open span writes no number, so it is read as None, as the span needs it.
    numbers = (read_number(words[-2]), read_number(words[-1]))
    return (word, words[0], numbers) if word == "name" else (word, *numbers)


def change(book, word, words):
    if word == "undo":
        book.undo()
    elif word == "redo":
        book.redo()
    else:
        book.do(deed_of(word, words))
    return "ok"


def names_text(names):
    return " ".join(names) if names else "none"


def span_text(span):
    if span is None:
        return "gone"
    return f"{span[0]} -" if span[1] is None else f"{span[0]} {span[1]}"


def label_text(label):
    return "top" if label is None else f"{label[0]} {label[1]}"


def place_text(number):
    return "deleted" if number is None else str(number)


def query(book, word, words):
    if word == "names":
        return names_text(book.names())
    if word == "span":
        return span_text(book.span(words[0]))
    if word == "layout":
        return layout_text(book.layout())
    if word == "fewest":
        return str(fewest(book.layout()))
    number = read_number(words[0])
    if word == "row":
        return label_text(book.layout().row(number))
    return place_text(book.layout().where(number))


def answer(book, line):
    word, *words = line.split(" ")
    if not is_form(word, words):
        return "unknown"
    try:
        return change(book, word, words) if word in CHANGES else query(book, word, words)
    except (SpanError, NoName, NothingLeft) as wrong:
        return f"error {wrong.word}"


class Console:
    """A console that works on a book."""

    def __init__(self, book):
        self.served = book
        self.lines = []

    def book(self):
        """The book."""
        return self.served

    def run(self, line):
        """The answer to a line."""
        self.lines.append(line)
        return answer(self.served, line)

    def __len__(self):
        return len(self.lines)
