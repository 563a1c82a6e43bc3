"""The house: it keeps desks by names, is told rows, and answers each by a text."""

from pastdesk.asks import read_row
from pastdesk.desk import Desk
from pastdesk.errors import Known, NoName
from pastdesk.words import show_deed, show_number


def show_answer(answer):
    return "none" if answer is None else show_number(answer)


def show_answers(entry):
    """A time with the answer there, or with those before and behind."""
    return " ".join([show_answer(part) for part in entry])


def show_entry(entry):
    return " ".join([show_number(entry[0]), show_deed(entry[1])])


def show_thing(thing):
    """What stands on a desk: a number, or a name with the number that it stands for."""
    if isinstance(thing, tuple):
        return "=".join([thing[0], show_number(thing[1])])
    return show_number(thing)


def listed(texts, bare):
    return "; ".join(texts) if texts != [] else bare


def replied(desk, asked):
    """The answer of a desk to a row that has been read."""
    word = asked[0]
    if word == "change":
        return listed([show_answers(entry) for entry in desk.rewrite(asked[2])], "ok")
    if word == "tell":
        return show_answer(desk.told(asked[3], asked[2]))
    if word == "whence":
        return show_answer(desk.source(asked[3], asked[2]))
    if word == "stand":
        return " ".join([show_thing(thing) for thing in desk.stand(asked[2])] or ["-"])
    if word == "book":
        return listed([show_entry(entry) for entry in desk.deeds()], "-")
    return listed([show_answers(entry) for entry in desk.answers()], "-")


class House:
    def __init__(self):
        self.desks = {}

    def say(self, row):
        asked = read_row(row)
        name = asked[1]
        if asked[0] == "new":
            return self.set_up(name, asked[2])
        if name not in self.desks:
            raise NoName(f"no desk stands by the name {name}")
        return replied(self.desks[name], asked)

    def set_up(self, name, kind):
        if name in self.desks:
            raise Known(f"a desk stands by the name {name} already")
        self.desks[name] = Desk(kind)
        return "ok"
