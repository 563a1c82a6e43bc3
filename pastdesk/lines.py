"""The line: numbers stand one behind another, and the one at the front is taken first."""

from pastdesk.kinds import Kind
from pastdesk.knots import is_leaf, parts, row_total, total_of
from pastdesk.rows import (
    is_asked_row_deed, is_row_deed, joined_lack, number_put, numbers_ahead, puts_of, takes_of, time_put,
)


def put_behind(knots, earlier):
    """The knot of the put ahead of which just so many are in the knots, taken or not; None without one."""
    still_earlier = earlier
    for knot in knots:
        puts = total_of(knot)[1]
        if still_earlier < puts:
            return knot if is_leaf(knot) else put_behind(parts(knot), still_earlier)
        still_earlier = still_earlier - puts
    return None


def gone_in(total):
    return total[2] - total[0]


def left_in(total):
    return total[1] - gone_in(total)


class Line(Kind):
    """A total is (lack, puts, takes): how many takes find nothing, how many puts there are, how many takes in all."""

    def knows(self, deed):
        return is_row_deed(deed)

    def asked(self, deed):
        return is_asked_row_deed(deed)

    def lone(self, at, deed):
        return (takes_of(deed), puts_of(deed), takes_of(deed))

    def nothing(self):
        return (0, 0, 0)

    def joined(self, one, other):
        return (joined_lack(one[0], left_in(one), other[0]), one[1] + other[1], one[2] + other[2])

    def fits(self, total):
        return total[0] == 0

    def answer(self, knots, deed):
        if deed[0] == "many":
            return left_in(row_total(self, knots))
        return number_put(self.put_asked(knots, deed))

    def source(self, knots, deed):
        if deed[0] == "many":
            return None
        return time_put(self.put_asked(knots, deed))

    def put_asked(self, knots, deed):
        # Numbers leave in the order in which they came, so those that are gone are the first ones put.
        return put_behind(knots, gone_in(row_total(self, knots)) + numbers_ahead(deed))

    def stand(self, knots):
        total = row_total(self, knots)
        return [number_put(put_behind(knots, earlier)) for earlier in range(gone_in(total), total[1])]
