"""The texts of layouts and of scripts."""

from spanrows.errors import BadText
from spanrows.pieces import read_number
from spanrows.scripts import check_script, is_command


def layout_text(layout):
    """The text of a layout."""
    return str(layout)


def script_text(script):
    """The text of a script, a line for each command."""
    check_script(script)
    return "".join([f"{word} {number} {other}\n" for word, number, other in script])


def read_command(line):
    """The command that a line writes, or None if it writes none."""
    words = line.split(" ")
    if len(words) != 3:
        return None
    command = (words[0], read_number(words[1]), read_number(words[2]))
    return command if is_command(command) else None


def parse_script(text):
    """The script that a text writes."""
    lines = text.split("\n")
    # What stands behind the last line feed is no line, and must be empty.
    rest = lines.pop()
    script = [read_command(line) for line in lines]
    if None in script:
        raise BadText(script.index(None))
    if rest != "":
        raise BadText(len(lines))
    return script
