"""The desk of sums: one number, at first 0, to which numbers are added."""

from pastdesk.kinds import Kind, is_numbered
from pastdesk.knots import is_leaf, parts, row_total, total_of


def first_reaching(knots, number):
    """The time of the first deed behind which that number or more stands, begun with 0; None where there is none."""
    stands = 0
    for knot in knots:
        total = total_of(knot)
        if stands + total[2] >= number:
            if is_leaf(knot):
                return knot[0]
            return first_reaching(parts(knot), number - stands)
        stands = stands + total[0]
    return None


class Sums(Kind):
    """A total is (net, low, peak): the number behind the row, the least and the greatest one from its begin on."""

    def knows(self, deed):
        if deed in (("many",), ("peak",)):
            return True
        return is_numbered(deed, "add") or (is_numbered(deed, "reach") and deed[1] >= 1)

    def asked(self, deed):
        return self.knows(deed) and deed[0] != "add"

    def lone(self, at, deed):
        if deed[0] == "add":
            return (deed[1], min(0, deed[1]), max(0, deed[1]))
        return self.nothing()

    def nothing(self):
        return (0, 0, 0)

    def joined(self, one, other):
        # The second row begins where the first one ends, so all its numbers stand higher by the first net.
        net = one[0]
        return (net + other[0], min(one[1], net + other[1]), max(one[2], net + other[2]))

    def fits(self, total):
        return total[1] >= 0

    def answer(self, knots, deed):
        if deed[0] == "reach":
            return first_reaching(knots, deed[1])
        total = row_total(self, knots)
        if deed[0] == "peak":
            return total[2]
        return total[0]

    def source(self, knots, deed):
        if deed[0] == "reach":
            return first_reaching(knots, deed[1])
        return None

    def stand(self, knots):
        return [row_total(self, knots)[0]]
