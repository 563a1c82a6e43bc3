"""Names, and the desk of names: names are set to stand for numbers, and are dropped."""

from pastdesk.kinds import Kind
from pastdesk.knots import row_total, total_of
from pastdesk.wholes import is_whole


def is_name(thing):
    if not isinstance(thing, str):
        return False
    return 1 <= len(thing) <= 12 and all(["a" <= sign <= "z" for sign in thing])


def is_named(deed, word):
    """Whether a tuple is that word and one name behind it."""
    return len(deed) == 2 and deed[0] == word and is_name(deed[1])


def is_set(deed):
    return len(deed) == 3 and deed[0] == "set" and is_name(deed[1]) and is_whole(deed[2])


def last_set(knots, name):
    """The tuple (x, at) of what the name stands for behind the knots; two times None where it doesn't stand."""
    for knot in reversed(knots):
        # The last knot that has deeds on the name tells all: ahead of it they no longer matter.
        for entry in total_of(knot)[1]:
            if entry[0] == name:
                return (None, None) if entry[2] is None else entry[2]
    return (None, None)


class Names(Kind):
    """A total is (lack, entries): how many drops find nothing, and what the row does to each name.

    An entry is (name, wants, last): whether the row's first deed on the name is a drop, and the last set of it
    as a tuple (x, at), or None where the name doesn't stand behind the row.
    """

    def knows(self, deed):
        if deed == ("many",):
            return True
        return is_set(deed) or is_named(deed, "drop") or is_named(deed, "look")

    def asked(self, deed):
        return self.knows(deed) and deed[0] != "set"

    def lone(self, at, deed):
        if deed[0] == "set":
            return (0, ((deed[1], False, (deed[2], at)),))
        if deed[0] == "drop":
            return (1, ((deed[1], True, None),))
        return self.nothing()

    def nothing(self):
        return (0, ())

    def joined(self, one, other):
        lack = one[0] + other[0]
        entries = dict([(entry[0], entry) for entry in one[1]])
        for later in other[1]:
            name = later[0]
            earlier = entries.get(name, (name, later[1], None))
            # The drop that found nothing finds the name that the first row leaves standing; behind the drop it
            # doesn't stand either way, so nothing else of the second row hangs on the first.
            if later[1] and earlier[2] is not None:
                lack = lack - 1
            entries[name] = (name, earlier[1], later[2])
        return (lack, tuple(sorted(entries.values())))

    def fits(self, total):
        return total[0] == 0

    def answer(self, knots, deed):
        if deed[0] == "many":
            return len(self.stand(knots))
        return last_set(knots, deed[1])[0]

    def source(self, knots, deed):
        if deed[0] == "many":
            return None
        return last_set(knots, deed[1])[1]

    def stand(self, knots):
        entries = row_total(self, knots)[1]
        return [(entry[0], entry[2][0]) for entry in entries if entry[2] is not None]
