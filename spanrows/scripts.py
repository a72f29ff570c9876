"""Scripts: lists of commands, and the layouts that they make."""

from spanrows.errors import BadCommand
from spanrows.layouts import Layout
from spanrows.pieces import PLAIN, are_numbers, followed


def is_command(item):
    if not isinstance(item, tuple) or not are_numbers(item[1:], 2):
        return False
    word, number, other = item
    if word == "insert":
        return number >= 0 and other >= 1
    return word == "delete" and 0 <= number <= other


def check_script(script):
    """Raises BadCommand for the first item that is not a command."""
    for at, item in enumerate(script):
        if not is_command(item):
            raise BadCommand(at)


def old_rows_before(number):
    return [("old", 0, number - 1)] if number > 0 else []


def insert_pieces(at, count):
    if at == 0:
        return [("top", count), ("old", 0, None)]
    return old_rows_before(at) + [("new", at - 1, at, count), ("old", at, None)]


def delete_pieces(first, last):
    return old_rows_before(first) + [("old", last + 1, None)]


def command_pieces(command):
    """The pieces of the layout of one command on the untouched sheet."""
    word, number, other = command
    return insert_pieces(number, other) if word == "insert" else delete_pieces(number, other)


def pieces_behind(script, pieces):
    """The pieces that a script of commands makes of pieces; there may be any number of them."""
    for command in script:
        pieces = followed(pieces, command_pieces(command))
    return pieces


def run(script, *, start=None):
    """The layout behind a script on the untouched sheet, or on the rows of the layout start."""
    check_script(script)
    return Layout(pieces_behind(script, PLAIN if start is None else start.pieces()))
