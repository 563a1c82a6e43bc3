"""What is told of whole trees: the first deed that can't be done, the answers, and what has turned."""

from pastdesk.books import parted
from pastdesk.knots import is_leaf, total_of


def failing(kind, tree):
    if tree is None or kind.fits(total_of(tree)):
        return None
    return first_failing(kind, kind.nothing(), tree)


def first_failing(kind, total, tree):
    """The same of a tree in which some deed can't be done behind a row of that total, all of which can."""
    if is_leaf(tree):
        return tree[0]
    with_left = kind.joined(total, total_of(tree[3]))
    if kind.fits(with_left):
        return first_failing(kind, with_left, tree[4])
    return first_failing(kind, total, tree[3])


def answers(kind, tree):
    return [] if tree is None else answers_behind(kind, [], tree)


def answers_behind(kind, knots, tree):
    """The answers of a tree, all deeds of the knots being done ahead of it."""
    if not is_leaf(tree):
        return answers_behind(kind, knots, tree[3]) + answers_behind(kind, knots + [tree[3]], tree[4])
    if kind.asked(tree[3]):
        return [(tree[0], kind.answer(knots, tree[3]))]
    return []


def turned(kind, old, new):
    before = dict(answers(kind, old))
    behind = dict(answers(kind, new))
    # Where the trees don't part, what is asked in the one is asked in the other, too.
    both = sorted(set(before) - set(parted(old, new)))
    return [(at, before[at], behind[at]) for at in both if before[at] != behind[at]]
