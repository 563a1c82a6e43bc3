"""The plain kind, base of the kinds of desk: it knows no deed, yet a tree of any deeds can be kept for it."""

from pastdesk.wholes import is_whole


def is_numbered(deed, word):
    """Whether a tuple is that word and one whole number behind it."""
    return len(deed) == 2 and deed[0] == word and is_whole(deed[1])


class Kind:
    def knows(self, deed):
        return False

    def asked(self, deed):
        return False

    def lone(self, at, deed):
        return 1

    def nothing(self):
        return 0

    def joined(self, one, other):
        return one + other

    def fits(self, total):
        return True

    def answer(self, knots, deed):
        return None

    def source(self, knots, deed):
        return None

    def stand(self, knots):
        return []
