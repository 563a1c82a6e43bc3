"""What the tests hold the program against: books, and the plainest way to each answer."""

END = 2 ** 30

POWERS = [2 ** power for power in range(30)]

TIMES = {
    "none": [],
    "one": [77],
    "the first": [0],
    "the last": [END - 1],
    "two side by side, halves of one": [4, 5],
    "two side by side, no halves of one": [3, 4],
    "the first and the last": [0, END - 1],
    "about the middle": [END // 2 - 1, END // 2],
    "three": [1, 6, 1000],
    "a run": list(range(17)),
    "a run with a gap": [at for at in range(40) if at != 21],
    "a late run with a gap": [at for at in range(END - 35, END) if at != END - 9],
    "powers of two": POWERS,
    "the end less powers of two": sorted(END - power for power in POWERS),
    "both ends and all between": sorted(
        set(POWERS) | {END - power for power in POWERS} | {0} | set(range(END // 2 - 5, END // 2 + 4))
    ),
    "three hundred": sorted(at * 7919 % END for at in range(1, 301)),
    "three hundred far apart": sorted(at * 387420489 % END for at in range(1, 301)),
}


def mixed(things):
    """The things in an order that neither rises nor falls, the same each time."""
    if not things:
        return []
    step = next(step for step in range(7, 1000) if len(things) % step and prime(step))
    return [things[(5 + step * place) % len(things)] for place in range(len(things))]


def prime(number):
    return all(number % part for part in range(2, number))


def orders(things):
    middle = len(things) // 2
    return (
        list(things),
        list(reversed(things)),
        mixed(things),
        list(things[middle:]) + list(reversed(things[:middle])),
    )


def some_deed(at):
    """A deed for the plain kind, which takes any; those of neighbouring times are unlike."""
    return (("write", at), ("look",), ("set", "ink", -at), ("take", "a", 10 ** 30))[at % 4]


def some_book(times):
    return [(at, some_deed(at)) for at in times]


def least_stretch(times):
    size = 1
    while times[0] // size != times[-1] // size:
        size = size * 2
    return (times[0] // size * size, size)


def plain_tree(book, total):
    """The tree of a book, word for word as it is told; total tells that of a list of (at, deed)."""
    if not book:
        return None
    if len(book) == 1:
        return (book[0][0], 1, total(book), book[0][1])
    low, size = least_stretch([at for at, deed in book])
    left = [(at, deed) for at, deed in book if at < low + size // 2]
    right = [(at, deed) for at, deed in book if at >= low + size // 2]
    return (low, size, total(book), plain_tree(left, total), plain_tree(right, total))


def knots_of(tree):
    """The knots of a tree, a knot ahead of those within it, the left ones ahead of the right ones."""
    if tree is None:
        return []
    if tree[1] == 1:
        return [tree]
    return [tree] + knots_of(tree[3]) + knots_of(tree[4])


def all_tuples(tree):
    return all(isinstance(knot, tuple) for knot in knots_of(tree))


def stretches_about(times):
    """Stretches of every size: those that hold a time or its neighbours, the twins of these, and some others."""
    found = {(0, END), (0, 1), (END - 1, 1)}
    for at in times:
        for near in (at - 1, at, at + 1):
            for power in range(31):
                size = 2 ** power
                low = near // size * size
                for begin in (low - size, low, low + size):
                    if 0 <= begin <= END - size:
                        found.add((begin, size))
    return sorted(found)


def ends_about(times):
    near = {at + step for at in times for step in (-1, 0, 1, 2)} | {0, 1, END - 1, END, END // 2}
    return sorted(end for end in near if 0 <= end <= END)


def without(book, at):
    return [entry for entry in book if entry[0] != at]


def with_deed(book, at, deed):
    return sorted(without(book, at) + [(at, deed)])
