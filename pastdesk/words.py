"""Numbers and deeds as they are written."""

from pastdesk.errors import NoText
from pastdesk.names import is_name

# The forms of written deeds: X stands for any number, NAME for any name.
FORMS = ("put X", "take", "look X", "look NAME", "many", "set NAME X", "drop NAME", "add X", "peak", "reach X")


def are_figures(text):
    return 1 <= len(text) <= 60 and all(["0" <= sign <= "9" for sign in text])


def is_number(text):
    figures = text[1:] if text.startswith("-") else text
    # Each number is written in one way: 0 by itself, all others with no 0 ahead.
    return are_figures(figures) and (text == "0" or not figures.startswith("0"))


def read_number(text):
    if not is_number(text):
        raise NoText(f"no number: {text!r}")
    return int(text)


def show_number(number):
    return str(number)


def read_part(text):
    return text if is_name(text) else read_number(text)


def form_of(deed):
    return " ".join([deed[0]] + ["NAME" if is_name(part) else "X" for part in deed[1:]])


def read_deed(text):
    words = text.split(" ")
    deed = tuple(words[:1] + [read_part(word) for word in words[1:]])
    if form_of(deed) not in FORMS:
        raise NoText(f"no deed: {text!r}")
    return deed


def show_deed(deed):
    return " ".join([part if isinstance(part, str) else show_number(part) for part in deed])
