"""What trees tell of their books: the deeds, those in or ahead of some times, and where two trees part."""

from pastdesk.knots import is_leaf, parts, stretch_of
from pastdesk.stretches import cover, halves, within


def deeds_of(tree):
    if tree is None:
        return []
    if is_leaf(tree):
        return [(tree[0], tree[3])]
    return deeds_of(tree[3]) + deeds_of(tree[4])


def deed_at(tree, at):
    there = inside(tree, (at, 1))
    if there is None:
        return None
    return there[3]


def inside(tree, stretch):
    there = tree
    while there is not None and not within(stretch_of(there), stretch):
        there = one_step_down(there, stretch)
    return there


def one_step_down(tree, stretch):
    """The left or right knot of a tree, the one in whose half the stretch lies; None where there is none."""
    if is_leaf(tree):
        return None
    both = halves(stretch_of(tree))
    if within(stretch, both[0]):
        return tree[3]
    if within(stretch, both[1]):
        return tree[4]
    return None


def ahead(tree, end):
    found = [inside(tree, stretch) for stretch in cover(end)]
    return [knot for knot in found if knot is not None]


def touched(old, new):
    # A tree has one knot at most for a stretch, so only that one of old can equal the knot of new;
    # and where it does, all knots within it are knots of old too.
    if new is None or inside(old, stretch_of(new)) == new:
        return []
    found = [stretch_of(new)]
    if not is_leaf(new):
        for part in parts(new):
            found.extend(touched(old, part))
    return found


def parted(old, new):
    before = dict(deeds_of(old))
    behind = dict(deeds_of(new))
    # No deed is None, so a time without a deed is unlike every time with one.
    return [at for at in sorted(set(before) | set(behind)) if before.get(at) != behind.get(at)]
