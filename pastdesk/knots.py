"""Knots, and trees of them.

A knot of one deed is (at, 1, total, deed), a knot of more deeds (low, size, total, left, right).
The tree of the book without deeds is None. Knots are never changed, so trees share them.
"""

from pastdesk.errors import Bare, Taken
from pastdesk.stretches import halves, holds, least


def stretch_of(tree):
    return (tree[0], tree[1])


def total_of(tree):
    return tree[2]


def is_leaf(tree):
    # Two deeds never share a time, so a stretch of one time has one deed, and any other has more.
    return tree[1] == 1


def parts(tree):
    """The left and the right knot of a knot of more deeds: a row of two knots."""
    return [tree[3], tree[4]]


def row_total(kind, knots):
    """The total of all deeds of the knots, each knot's times ahead of the next one's."""
    total = kind.nothing()
    for one in knots:
        total = kind.joined(total, total_of(one))
    return total


def leaf(kind, at, deed):
    return (at, 1, kind.lone(at, deed), deed)


def knot(kind, left, right):
    # A stretch that holds all deeds of a knot holds the knot's own stretch, so the stretches tell enough.
    stretch = least(stretch_of(left), stretch_of(right))
    total = kind.joined(total_of(left), total_of(right))
    return (stretch[0], stretch[1], total, left, right)


def beside(kind, tree, other):
    """The knot of two whose stretches have no time in common, whichever is the earlier one."""
    if other[0] < tree[0]:
        return knot(kind, other, tree)
    return knot(kind, tree, other)


def is_early(tree, at):
    return holds(halves(stretch_of(tree))[0], at)


def put_in(kind, tree, at, deed):
    if tree is None:
        return leaf(kind, at, deed)
    if not holds(stretch_of(tree), at):
        return beside(kind, tree, leaf(kind, at, deed))
    if is_leaf(tree):
        raise Taken(f"a deed stands at {at} already")
    if is_early(tree, at):
        return knot(kind, put_in(kind, tree[3], at, deed), tree[4])
    return knot(kind, tree[3], put_in(kind, tree[4], at, deed))


def taken_out(kind, tree, at):
    if tree is None or not holds(stretch_of(tree), at):
        raise Bare(f"no deed stands at {at}")
    if is_leaf(tree):
        return None
    if is_early(tree, at):
        return what_is_left(kind, taken_out(kind, tree[3], at), tree[4])
    return what_is_left(kind, tree[3], taken_out(kind, tree[4], at))


def what_is_left(kind, left, right):
    # Where one side has lost its last deed the other one moves up whole: no knot has a bare half.
    if left is None:
        return right
    if right is None:
        return left
    return knot(kind, left, right)
