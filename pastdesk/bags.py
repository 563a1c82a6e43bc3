"""The bag: numbers lie in it, and the least one is taken first, among alike ones the one put earliest."""

from pastdesk.kinds import Kind
from pastdesk.knots import row_total
from pastdesk.rows import is_asked_row_deed, is_row_deed, joined_lack, numbers_ahead


class Bag(Kind):
    """A total is (lack, gone, left): how many takes find nothing; the numbers taken, and those that lie there.

    Each number is a tuple (x, at) with the time of its put, so that sorted tuples stand in the order of takes.
    """

    def knows(self, deed):
        return is_row_deed(deed)

    def asked(self, deed):
        return is_asked_row_deed(deed)

    def lone(self, at, deed):
        if deed[0] == "put":
            return (0, (), ((deed[1], at),))
        if deed[0] == "take":
            return (1, (), ())
        return self.nothing()

    def nothing(self):
        return (0, (), ())

    def joined(self, one, other):
        # A number that lies there ahead of the second row goes to its first take that found nothing. Where there
        # is no such take, a take that has this number leaves another one in its place, and in the end the greatest
        # of it and all that were taken stays. So of both together the least ones go, as many as the takes can have.
        found = sorted(one[2] + other[1])
        many = len(other[1]) + min(len(one[2]), other[0])
        gone = sorted(list(one[1]) + found[:many])
        left = sorted(list(other[2]) + found[many:])
        return (joined_lack(one[0], len(one[2]), other[0]), tuple(gone), tuple(left))

    def fits(self, total):
        return total[0] == 0

    def answer(self, knots, deed):
        if deed[0] == "many":
            return len(row_total(self, knots)[2])
        return self.put_asked(knots, deed)[0]

    def source(self, knots, deed):
        if deed[0] == "many":
            return None
        return self.put_asked(knots, deed)[1]

    def put_asked(self, knots, deed):
        """The tuple (x, at) of the number that a take or a look is about; two times None without one."""
        left = row_total(self, knots)[2]
        place = numbers_ahead(deed)
        return left[place] if place < len(left) else (None, None)

    def stand(self, knots):
        return [put[0] for put in row_total(self, knots)[2]]
