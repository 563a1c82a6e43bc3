"""The desk: it keeps a book of deeds of one kind as a tree, lets it be rewritten, and is asked about any time."""

from pastdesk.books import ahead, deed_at, deeds_of
from pastdesk.errors import NoDeed, NoTime, Undone
from pastdesk.knots import put_in, taken_out
from pastdesk.rewriting import answers, failing, turned
from pastdesk.stretches import ALL_TIMES, is_time


def check_time(at):
    if not is_time(at):
        raise NoTime(f"no time: {at!r}")


def changed(kind, tree, change):
    """The tree that one change makes of a tree."""
    at = change[1]
    check_time(at)
    if change[0] == "out":
        return taken_out(kind, tree, at)
    deed = change[2]
    if not kind.knows(deed):
        raise NoDeed(f"no deed of this kind: {deed!r}")
    return put_in(kind, tree, at, deed)


class Desk:
    def __init__(self, kind):
        self.kind = kind
        self.kept = None

    def put(self, at, deed):
        return self.rewrite([("put", at, deed)])

    def out(self, at):
        return self.rewrite([("out", at)])

    def rewrite(self, changes):
        new = self.kept
        for change in changes:
            new = changed(self.kind, new, change)
        first = failing(self.kind, new)
        if first is not None:
            raise Undone(first, deed_at(new, first))
        told = turned(self.kind, self.kept, new)
        # Trees are never changed, so all that was refused up to here has left the old one as it was.
        self.kept = new
        return told

    def told(self, deed, at=None):
        knots = self.knots_by(at)
        self.check_asked(deed)
        return self.kind.answer(knots, deed)

    def source(self, deed, at=None):
        knots = self.knots_by(at)
        self.check_asked(deed)
        return self.kind.source(knots, deed)

    def stand(self, at=None):
        return self.kind.stand(self.knots_by(at))

    def knots_by(self, at):
        """The knots of all deeds up to a time, the one at that time among them, or up to now."""
        if at is None:
            return ahead(self.kept, ALL_TIMES)
        check_time(at)
        return ahead(self.kept, at + 1)

    def check_asked(self, deed):
        if not self.kind.knows(deed) or not self.kind.asked(deed):
            raise NoDeed(f"no asked deed of this kind: {deed!r}")

    def deeds(self):
        return deeds_of(self.kept)

    def answers(self):
        return answers(self.kind, self.kept)

    def tree(self):
        return self.kept
