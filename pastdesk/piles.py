"""The pile: numbers lie one on another, and the one on the top is taken first."""

from pastdesk.kinds import Kind
from pastdesk.knots import is_leaf, parts, row_total, total_of
from pastdesk.rows import (
    is_asked_row_deed, is_row_deed, joined_lack, number_put, numbers_ahead, puts_of, takes_of, time_put,
)


def put_below(knots, above):
    """The knot of the put whose number lies below just so many behind all deeds of the knots; None without one."""
    still_above = above
    for knot in reversed(knots):
        total = total_of(knot)
        if still_above < total[1]:
            return knot if is_leaf(knot) else put_below(parts(knot), still_above)
        # Ahead of this knot the numbers that it takes from below lie above the wanted one, too.
        still_above = still_above - total[1] + total[0]
    return None


class Pile(Kind):
    """A total is (lack, left): how many takes find nothing, and how many numbers lie there behind the row."""

    def knows(self, deed):
        return is_row_deed(deed)

    def asked(self, deed):
        return is_asked_row_deed(deed)

    def lone(self, at, deed):
        return (takes_of(deed), puts_of(deed))

    def nothing(self):
        return (0, 0)

    def joined(self, one, other):
        return (joined_lack(one[0], one[1], other[0]), other[1] + max(0, one[1] - other[0]))

    def fits(self, total):
        return total[0] == 0

    def answer(self, knots, deed):
        if deed[0] == "many":
            return row_total(self, knots)[1]
        return number_put(put_below(knots, numbers_ahead(deed)))

    def source(self, knots, deed):
        if deed[0] == "many":
            return None
        return time_put(put_below(knots, numbers_ahead(deed)))

    def stand(self, knots):
        many = row_total(self, knots)[1]
        return [number_put(put_below(knots, above)) for above in range(many - 1, -1, -1)]
