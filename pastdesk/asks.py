"""The rows that a house is told, as they are read.

What is read is a tuple of a word, the name of a desk and what else is asked: ("new", name, kind),
("change", name, changes), ("tell", name, when, deed), ("whence", name, when, deed), ("stand", name, when),
("book", name) or ("answers", name). The changes are a list as a desk takes it; when is None for now.
"""

from pastdesk.bags import Bag
from pastdesk.errors import NoText
from pastdesk.lines import Line
from pastdesk.names import Names, is_name
from pastdesk.piles import Pile
from pastdesk.sums import Sums
from pastdesk.words import read_deed, read_number


def read_row(row):
    parts = row.split(" ", 2)
    if len(parts) < 2 or not is_name(parts[1]):
        raise NoText(f"no row: {row!r}")
    if len(parts) == 2:
        return read_short(parts[0], parts[1])
    return read_long(parts[0], parts[1], parts[2])


def read_short(word, name):
    if word not in ("book", "answers"):
        raise NoText(f"no row that ends with a name: {word!r}")
    return (word, name)


def read_long(word, name, rest):
    """A row that has more behind its name."""
    if word == "new":
        return (word, name, read_kind(rest))
    if word in ("put", "out"):
        return ("change", name, [read_change(f"{word} {rest}")])
    if word == "change":
        return (word, name, [read_change(text) for text in rest.split("; ")])
    if word in ("tell", "whence"):
        parts = rest.partition(" ")
        return (word, name, read_when(parts[0]), read_deed(parts[2]))
    if word == "stand":
        return (word, name, read_when(rest))
    raise NoText(f"no row that goes on behind a name: {word!r}")


def read_kind(text):
    if text == "sums":
        return Sums()
    if text == "pile":
        return Pile()
    if text == "line":
        return Line()
    if text == "bag":
        return Bag()
    if text == "names":
        return Names()
    raise NoText(f"no kind: {text!r}")


def read_change(text):
    parts = text.split(" ", 2)
    if parts[0] == "put" and len(parts) == 3:
        return ("put", read_number(parts[1]), read_deed(parts[2]))
    if parts[0] == "out" and len(parts) == 2:
        return ("out", read_number(parts[1]))
    raise NoText(f"no change: {text!r}")


def read_when(text):
    return None if text == "now" else read_number(text)
