"""What the tests hold the program against: books, and the plainest way to each answer."""

import re

from pastdesk.bags import Bag
from pastdesk.errors import Bare, Known, NoDeed, NoName, NoText, NoTime, PastError, Taken, Undone
from pastdesk.knots import put_in
from pastdesk.lines import Line
from pastdesk.names import Names
from pastdesk.piles import Pile
from pastdesk.sums import Sums

END = 2 ** 30

POWERS = [2 ** power for power in range(30)]

TIMES = {
    "none": [],
    "one": [77],
    "the first": [0],
    "the last": [END - 1],
    "two side by side, halves of one": [4, 5],
    "two side by side, no halves of one": [3, 4],
    "the first and the last": [0, END - 1],
    "about the middle": [END // 2 - 1, END // 2],
    "three": [1, 6, 1000],
    "a run": list(range(17)),
    "a run with a gap": [at for at in range(40) if at != 21],
    "a late run with a gap": [at for at in range(END - 35, END) if at != END - 9],
    "powers of two": POWERS,
    "the end less powers of two": sorted(END - power for power in POWERS),
    "both ends and all between": sorted(
        set(POWERS) | {END - power for power in POWERS} | {0} | set(range(END // 2 - 5, END // 2 + 4))
    ),
    "three hundred": sorted(at * 7919 % END for at in range(1, 301)),
    "three hundred far apart": sorted(at * 387420489 % END for at in range(1, 301)),
}


def mixed(things):
    """The things in an order that neither rises nor falls, the same each time."""
    if not things:
        return []
    step = next(step for step in range(7, 1000) if len(things) % step and prime(step))
    return [things[(5 + step * place) % len(things)] for place in range(len(things))]


def prime(number):
    return all(number % part for part in range(2, number))


def orders(things):
    middle = len(things) // 2
    return (
        list(things),
        list(reversed(things)),
        mixed(things),
        list(things[middle:]) + list(reversed(things[:middle])),
    )


def some_deed(at):
    """A deed for the plain kind, which takes any; those of neighbouring times are unlike."""
    return (("write", at), ("look",), ("set", "ink", -at), ("take", "a", 10 ** 30))[at % 4]


def some_book(times):
    return [(at, some_deed(at)) for at in times]


def least_stretch(times):
    size = 1
    while times[0] // size != times[-1] // size:
        size = size * 2
    return (times[0] // size * size, size)


def plain_tree(book, total):
    """The tree of a book, word for word as it is told; total tells that of a list of (at, deed)."""
    if not book:
        return None
    if len(book) == 1:
        return (book[0][0], 1, total(book), book[0][1])
    low, size = least_stretch([at for at, deed in book])
    left = [(at, deed) for at, deed in book if at < low + size // 2]
    right = [(at, deed) for at, deed in book if at >= low + size // 2]
    return (low, size, total(book), plain_tree(left, total), plain_tree(right, total))


def grown(kind, row):
    """The tree that comes of the deeds of a row, put in one after another."""
    tree = None
    for at, deed in row:
        tree = put_in(kind, tree, at, deed)
    return tree


def knots_of(tree):
    """The knots of a tree, a knot ahead of those within it, the left ones ahead of the right ones."""
    if tree is None:
        return []
    if tree[1] == 1:
        return [tree]
    return [tree] + knots_of(tree[3]) + knots_of(tree[4])


def all_tuples(tree):
    return all(isinstance(knot, tuple) for knot in knots_of(tree))


def stretches_about(times):
    """Stretches of every size: those that hold a time or its neighbours, the twins of these, and some others."""
    found = {(0, END), (0, 1), (END - 1, 1)}
    for at in times:
        for near in (at - 1, at, at + 1):
            for power in range(31):
                size = 2 ** power
                low = near // size * size
                for begin in (low - size, low, low + size):
                    if 0 <= begin <= END - size:
                        found.add((begin, size))
    return sorted(found)


def ends_about(times):
    near = {at + step for at in times for step in (-1, 0, 1, 2)} | {0, 1, END - 1, END, END // 2}
    return sorted(end for end in near if 0 <= end <= END)


def without(book, at):
    return [entry for entry in book if entry[0] != at]


def with_deed(book, at, deed):
    return sorted(without(book, at) + [(at, deed)])


def nothing_behind(behind):
    return behind == ()


def one_number(behind):
    return len(behind) == 1 and type(behind[0]) is int


def one_name(behind):
    return len(behind) == 1 and type(behind[0]) is str and re.fullmatch("[a-z]{1,12}", behind[0]) is not None


class PlainSums:
    """The desk of sums, done deed after deed; a row is a list of (at, deed).

    known tells for each word of the kind whether what stands behind it makes a deed.
    """

    known = {
        "add": one_number,
        "many": nothing_behind,
        "peak": nothing_behind,
        "reach": lambda behind: one_number(behind) and behind[0] >= 1,
    }

    def numbers(self, row):
        """The numbers that have stood, the first 0 ahead of those behind each deed."""
        found = [0]
        for at, deed in row:
            found.append(found[-1] + (deed[1] if deed[0] == "add" else 0))
        return found

    def total(self, row):
        found = self.numbers(row)
        return (found[-1], min(found), max(found))

    def can(self, row):
        return all(number >= 0 for number in self.numbers(row))

    def answer(self, row, deed):
        found = self.numbers(row)
        if deed[0] == "many":
            return found[-1]
        if deed[0] == "peak":
            return max(found)
        times = [at for (at, done), number in zip(row, found[1:]) if number >= deed[1]]
        return times[0] if times else None

    def source(self, row, deed):
        return self.answer(row, deed) if deed[0] == "reach" else None

    def stand(self, row):
        return self.numbers(row)[-1:]


class PlainRow:
    """What a pile, a line and a bag have in common, done deed after deed."""

    known = {
        "put": one_number,
        "take": nothing_behind,
        "look": lambda behind: one_number(behind) and behind[0] >= 0,
        "many": nothing_behind,
    }

    def done(self, row):
        """The puts (x, at) that stand, in the order of times, how many takes found nothing, and the puts taken."""
        puts = []
        lack = 0
        gone = []
        for at, deed in row:
            if deed[0] == "put":
                puts.append((deed[1], at))
            elif deed[0] == "take" and puts:
                gone.append(puts.pop(self.first(puts)))
            elif deed[0] == "take":
                lack = lack + 1
        return puts, lack, gone

    def can(self, row):
        return self.done(row)[1] == 0

    def wanted(self, row, deed):
        puts = self.done(row)[0]
        above = deed[1] if deed[0] == "look" else 0
        while puts and above > 0:
            puts.pop(self.first(puts))
            above = above - 1
        return puts[self.first(puts)] if puts else (None, None)

    def answer(self, row, deed):
        return len(self.done(row)[0]) if deed[0] == "many" else self.wanted(row, deed)[0]

    def source(self, row, deed):
        return None if deed[0] == "many" else self.wanted(row, deed)[1]

    def stand(self, row):
        return [x for x, at in self.done(row)[0]]


class PlainPile(PlainRow):
    def first(self, puts):
        return len(puts) - 1

    def total(self, row):
        puts, lack, gone = self.done(row)
        return (lack, len(puts))


class PlainLine(PlainRow):
    def first(self, puts):
        return 0

    def total(self, row):
        words = [deed[0] for at, deed in row]
        return (self.done(row)[1], words.count("put"), words.count("take"))


class PlainBag(PlainRow):
    def first(self, puts):
        numbers = [x for x, at in puts]
        return numbers.index(min(numbers))

    def total(self, row):
        puts, lack, gone = self.done(row)
        return (lack, tuple(sorted(gone)), tuple(sorted(puts)))

    def stand(self, row):
        return sorted(PlainRow.stand(self, row))


class PlainNames:
    """The desk of names, done deed after deed."""

    known = {
        "set": lambda behind: one_name(behind[:1]) and one_number(behind[1:]),
        "drop": one_name,
        "look": one_name,
        "many": nothing_behind,
    }

    def done(self, row):
        """What the names stand for, as {name: (x, at)}, and how many drops found nothing."""
        stands = {}
        lack = 0
        for at, deed in row:
            if deed[0] == "set":
                stands[deed[1]] = (deed[2], at)
            elif deed[0] == "drop":
                lack = lack + (0 if deed[1] in stands else 1)
                stands.pop(deed[1], None)
        return stands, lack

    def total(self, row):
        stands, lack = self.done(row)
        borne = [deed for at, deed in row if deed[0] in ("set", "drop")]
        entries = []
        for name in sorted({deed[1] for deed in borne}):
            wants = [deed[0] for deed in borne if deed[1] == name][0] == "drop"
            entries.append((name, wants, stands.get(name)))
        return (lack, tuple(entries))

    def can(self, row):
        return self.done(row)[1] == 0

    def answer(self, row, deed):
        stands = self.done(row)[0]
        return len(stands) if deed[0] == "many" else stands.get(deed[1], (None, None))[0]

    def source(self, row, deed):
        return None if deed[0] == "many" else self.done(row)[0].get(deed[1], (None, None))[1]

    def stand(self, row):
        stands = self.done(row)[0]
        return [(name, stands[name][0]) for name in sorted(stands)]


KINDS = {"sums": Sums(), "pile": Pile(), "line": Line(), "bag": Bag(), "names": Names()}

PLAIN = {"sums": PlainSums(), "pile": PlainPile(), "line": PlainLine(), "bag": PlainBag(), "names": PlainNames()}


def plain_knows(plain, deed):
    return deed[:1] != () and deed[0] in plain.known and plain.known[deed[0]](deed[1:])


def is_asked(deed):
    return deed[0] not in ("add", "put", "set")


def plain_failing(plain, row):
    for many in range(len(row)):
        if not plain.can(row[:many + 1]):
            return row[many][0]
    return None


def plain_answers(plain, row):
    return [(at, plain.answer(row[:many], deed)) for many, (at, deed) in enumerate(row) if is_asked(deed)]


def plain_turned(plain, old, new):
    before = dict(plain_answers(plain, old))
    behind = dict(plain_answers(plain, new))
    both = [at for at, deed in old if (at, deed) in new and is_asked(deed)]
    return [(at, before[at], behind[at]) for at in both if before[at] != behind[at]]


def long_sums(times):
    """Adds that rise and fall, below 0 as well, with asked deeds between."""
    deeds = []
    for place in range(len(times)):
        number = place * place * 37 % 41 - 19
        deeds.append((("add", number), ("add", number + 3), ("peak",), ("add", -number), ("reach", 3))[place % 5])
    return at_times(deeds, times)


def long_numbers(times, puts=4):
    """A row in which about so many of seven deeds are puts, and in which takes find nothing now and then."""
    deeds = []
    for place in range(len(times)):
        turn = place * place * 37 % 41 % 7
        deeds.append(("put", turn * 5 - place) if turn < puts else (("take",), ("look", turn), ("many",))[turn % 3])
    return at_times(deeds, times)


NAMES = ("a", "ink", "b", "abcdefghijkl", "zzzzzzzzzzzz", "in", "z")


def long_names(times, sets=4):
    """A row in which about so many of seven deeds are sets, and in which drops find nothing now and then."""
    deeds = []
    for place in range(len(times)):
        turn = place * place * 37 % 41 % 7
        name = NAMES[place * place * 29 % 31 % 7]
        others = (("drop", name), ("look", name), ("many",))
        deeds.append(("set", name, turn * 5 - place) if turn < sets else others[turn % 3])
    return at_times(deeds, times)


LONG = {"sums": long_sums, "pile": long_numbers, "line": long_numbers, "bag": long_numbers, "names": long_names}

# For each kind a deed that others hang on, one that may be such as can't be done, and two asked ones.
SMALL = {
    "sums": (("add", 2), ("add", -1), ("reach", 1), ("many",)),
    "pile": (("put", 2), ("put", 1), ("take",), ("look", 0)),
    "line": (("put", 2), ("put", 1), ("take",), ("look", 0)),
    "bag": (("put", 2), ("put", 1), ("take",), ("look", 0)),
    "names": (("set", "a", 1), ("set", "a", 2), ("drop", "a"), ("look", "a")),
}


# For each kind deeds to try one after another, the asked ones behind the others.
DEEDS = {
    "sums": (
        ("add", 3), ("add", 1), ("add", 0), ("add", -2), ("add", -1), ("many",), ("peak",), ("reach", 1), ("reach", 4),
        ("reach", 9),
    ),
    "pile": (("put", 5), ("put", -2), ("put", 0), ("take",), ("look", 0), ("look", 1), ("look", 3), ("many",)),
    "line": (("put", 5), ("put", -2), ("put", 0), ("take",), ("look", 0), ("look", 1), ("look", 3), ("many",)),
    "bag": (("put", 5), ("put", -2), ("put", 0), ("take",), ("look", 0), ("look", 1), ("look", 3), ("many",)),
    "names": (
        ("set", "a", 1), ("set", "a", -4), ("set", "ink", 0), ("drop", "a"), ("drop", "ink"), ("look", "a"),
        ("look", "ink"), ("look", "b"), ("many",),
    ),
}

NO_TIMES = (-1, END, END + 1, -END, 10 ** 299, -(10 ** 299), True, False, None, "", "5", "now")


def doable(plain, row):
    """Those deeds of a row that can be done, those left out that can't."""
    done = []
    for entry in row:
        done = done + ([entry] if plain.can(done + [entry]) else [])
    return done


def every_book(deeds, times):
    """Each book that has, at each of the times, one of the deeds or none."""
    books = [[]]
    for at in times:
        books = [book + more for book in books for more in [[]] + [[(at, deed)] for deed in deeds]]
    return books


WORDS = (
    "put", "take", "look", "many", "add", "peak", "reach", "set", "drop", "", "Put", "TAKE", "adds", " many", "look 1",
)

BEHIND = (
    (), (0,), (1,), (2,), (-1,), (-7,), (10 ** 30,), (-(10 ** 30),), (2 ** 30,), (True,), (False,), (None,), ("",),
    ("1",), ("ink",), (1, 2), (0, 0), (1, None), (None, 1), (1, "ink"), ("ink", 1), ("ink", True), (5, 6, 7),
    ("a",), ("z",), ("abcdefghijkl",), ("abcdefghijklm",), ("Ink",), ("inK",), ("in k",), (" ink",), ("ink1",), ("`",),
    ("in{",), ("ink", 0), ("ink", -7), ("ink", 10 ** 30), ("ink", False), ("ink", None), ("ink", "1"), ("ink", "ink"),
    ("", 1), ("Ink", 1), ("abcdefghijklm", 1), ("abcdefghijkl", 1), (True, 1), (True, "ink"), (None, "ink"),
    ("ink", 1, 2), ("ink", 1, "ink"),
)

NO_WORD = (
    (), (None,), (True,), (False,), (0,), (1,), (-5,), (None, 1), (True, 1), (1, 1), (0, "put"), (1, "take"),
    (None, "many"), (None, None), (1, "add", 1), (10 ** 30,),
)


EVERY_TUPLE = [(word,) + behind for word in WORDS for behind in BEHIND] + list(NO_WORD)


def every_row(deeds_at, most):
    """Each row of up to so many deeds; deeds_at tells the deeds that may stand in a place."""
    rows = [[]]
    found = [[]]
    for place in range(most):
        rows = [row + [deed] for row in rows for deed in deeds_at(place)]
        found = found + rows
    return found


def at_times(deeds, times):
    return list(zip(times, deeds))


def every_parting(row):
    """Each way to part a row into runs of one deed or more."""
    if len(row) < 2:
        return [[row] if row else []]
    found = []
    for size in range(1, len(row) + 1):
        rests = every_parting(row[size:])
        found = found + [[row[:size]] + rest for rest in rests]
    return found


def some_partings(row):
    """The row deed by deed, whole, by runs of two and of five, and by runs that grow."""
    sizes = ([1] * len(row), [max(1, len(row))], [2] * len(row), [5] * len(row), list(range(1, len(row) + 1)))
    found = []
    for many in sizes:
        rest = row
        parting = []
        for size in many:
            parting = parting + ([rest[:size]] if rest else [])
            rest = rest[size:]
        found.append(parting)
    return found


class KindChecks:
    """Checks of a kind against its plain replay, for test cases that have both as self.kind and self.plain."""

    def check_known(self, known, many):
        """Those tuples are known, and just so many of all that are tried; the others are not."""
        for deed in known:
            with self.subTest(deed=deed):
                self.assertIs(self.kind.knows(deed), True)
        found = 0
        for deed in EVERY_TUPLE:
            with self.subTest(deed=deed):
                told = self.kind.knows(deed)
                self.assertIs(told, plain_knows(self.plain, deed))
                found = found + told
        self.assertEqual(found, many)

    def check_asked(self, asked, others):
        for deed in asked:
            with self.subTest(deed=deed):
                self.assertIs(self.kind.knows(deed), True)
                self.assertIs(self.kind.asked(deed), True)
        for deed in others:
            with self.subTest(deed=deed):
                self.assertIs(self.kind.knows(deed), True)
                self.assertIs(self.kind.asked(deed), False)

    def check_totals(self, row):
        """The total of a row, joined deed by deed and from any two and three parts, whatever the brackets."""
        told = self.plain.total(row)
        joined = self.kind.nothing()
        for at, deed in row:
            joined = self.kind.joined(joined, self.kind.lone(at, deed))
        self.assertEqual(joined, told, row)
        self.assertIs(self.kind.fits(told), self.plain.can(row), row)
        for first in range(len(row) + 1):
            for second in range(first, len(row) + 1):
                one = self.plain.total(row[:first])
                two = self.plain.total(row[first:second])
                three = self.plain.total(row[second:])
                left = self.kind.joined(self.kind.joined(one, two), three)
                right = self.kind.joined(one, self.kind.joined(two, three))
                self.assertEqual((left, right), (told, told), (row, first, second))

    def check_knots(self, knots, row, asks):
        """What is told of a list of knots that has the deeds of the row."""
        kept = list(knots)
        for deed in asks:
            told = (self.kind.answer(knots, deed), self.kind.source(knots, deed))
            self.assertEqual(told, (self.plain.answer(row, deed), self.plain.source(row, deed)), (kept, deed))
        told = self.kind.stand(knots)
        self.assertIs(type(told), list)
        self.assertEqual(told, self.plain.stand(row), kept)
        self.assertEqual(knots, kept)

    def check_row(self, row, partings, asks):
        for parting in partings:
            self.check_knots([plain_tree(part, self.plain.total) for part in parting], row, asks)

    def check_own_stand(self, knots):
        first = self.kind.stand(knots)
        kept = list(first)
        second = self.kind.stand(knots)
        self.assertIsNot(first, second)
        first.reverse()
        first.append("more")
        self.assertEqual(second, kept)
        self.assertEqual(self.kind.stand(knots), kept)
        first.clear()
        second.append(5)
        self.assertEqual(self.kind.stand(knots), kept)
        self.assertEqual(first, [])


class PlainDesk:
    """A desk that keeps its book as a list, and does all its deeds anew for each question."""

    def __init__(self, word):
        self.plain = PLAIN[word]
        self.book = []

    def rewrite(self, changes):
        book = self.book
        for change in changes:
            book = self.changed(book, *change)
        first = plain_failing(self.plain, book)
        if first is not None:
            raise Undone(first, dict(book)[first])
        told = plain_turned(self.plain, self.book, book)
        self.book = book
        return told

    def changed(self, book, word, at, deed=None):
        self.check_time(at)
        stands = at in dict(book)
        if word == "put" and not plain_knows(self.plain, deed):
            raise NoDeed()
        if word == "put" and stands:
            raise Taken()
        if word == "out" and not stands:
            raise Bare()
        return with_deed(book, at, deed) if word == "put" else without(book, at)

    def check_time(self, at):
        if type(at) is not int or at < 0 or at >= END:
            raise NoTime()

    def row_by(self, at):
        if at is None:
            return self.book
        self.check_time(at)
        return [entry for entry in self.book if entry[0] <= at]

    def told(self, deed, at=None):
        row = self.row_by(at)
        if not plain_knows(self.plain, deed) or not is_asked(deed):
            raise NoDeed()
        return self.plain.answer(row, deed)

    def source(self, deed, at=None):
        self.told(deed, at)
        return self.plain.source(self.row_by(at), deed)

    def stand(self, at=None):
        return self.plain.stand(self.row_by(at))

    def deeds(self):
        return list(self.book)

    def answers(self):
        return plain_answers(self.plain, self.book)

    def tree(self):
        return plain_tree(self.book, self.plain.total)


def outcome(asked, *things):
    """What is told, or which refusal came, with what it bears."""
    try:
        return ("told", asked(*things))
    except PastError as refusal:
        return (type(refusal), getattr(refusal, "at", None), getattr(refusal, "deed", None))


class Dice:
    """Throws that look like chance and are the same each time."""

    def __init__(self, seed):
        self.state = seed

    def under(self, number):
        self.state = (self.state * 6364136223846793005 + 1442695040888963407) % 2 ** 64
        return (self.state >> 33) % number

    def one_of(self, things):
        return things[self.under(len(things))]


NUMBER = "(?:0|-?[1-9][0-9]{0,59})"
NAME = "[a-z]{1,12}"
DEED = f"(?:(?:put|look|add|reach) {NUMBER}|take|many|peak|(?:look|drop) {NAME}|set {NAME} {NUMBER})"
CHANGE = f"(?:put {NUMBER} {DEED}|out {NUMBER})"
ROWS = [
    re.compile(form) for form in (
        f"(new) ({NAME}) (sums|pile|line|bag|names)",
        f"(put) ({NAME}) ({NUMBER} {DEED})",
        f"(out) ({NAME}) ({NUMBER})",
        f"(change) ({NAME}) ({CHANGE}(?:; {CHANGE})*)",
        f"(tell|whence) ({NAME}) ({NUMBER}|now) ({DEED})",
        f"(stand) ({NAME}) ({NUMBER}|now)",
        f"(book|answers) ({NAME})",
    )
]


def plain_deed(text):
    return tuple(int(part) if re.fullmatch(NUMBER, part) else part for part in text.split())


def plain_change(text):
    word, at, *deed = text.split()
    return (word, int(at), plain_deed(" ".join(deed))) if word == "put" else (word, int(at))


def plain_text(thing):
    """A thing as a house tells it: None, a number, a text, or a tuple of such things."""
    if isinstance(thing, tuple):
        return " ".join(plain_text(part) for part in thing)
    return "none" if thing is None else str(thing)


class PlainHouse:
    """A house that reads its rows by patterns, and keeps plain desks."""

    def __init__(self):
        self.desks = {}

    def say(self, row):
        found = [form.fullmatch(row) for form in ROWS if form.fullmatch(row)]
        if not found:
            raise NoText()
        word, name, *rest = found[0].groups()
        if word == "new" and name in self.desks:
            raise Known()
        if word == "new":
            self.desks[name] = PlainDesk(rest[0])
            return "ok"
        if name not in self.desks:
            raise NoName()
        return self.told(self.desks[name], word, rest)

    def told(self, desk, word, rest):
        if word in ("put", "out"):
            return self.told(desk, "change", [f"{word} {rest[0]}"])
        if word == "change":
            return "; ".join(plain_text(each) for each in desk.rewrite(
                [plain_change(text) for text in rest[0].split("; ")]
            )) or "ok"
        if word in ("book", "answers"):
            return "; ".join(plain_text(each) for each in (desk.deeds() if word == "book" else desk.answers())) or "-"
        when = None if rest[0] == "now" else int(rest[0])
        if word == "stand":
            stands = desk.stand(when)
            return " ".join("=".join(map(str, each)) if type(each) is tuple else str(each) for each in stands) or "-"
        return plain_text((desk.told if word == "tell" else desk.source)(plain_deed(rest[1]), when))


SIGNS = "".join(chr(number) for number in range(32, 127) if number != 37)


def garbled(text, signs):
    """The text with one sign left out, put in, set in the place of another, or done twice."""
    found = []
    for place in range(len(text) + 1):
        found = found + [text[:place] + sign + text[place:] for sign in signs]
    for place in range(len(text)):
        found = found + [text[:place] + sign + text[place + 1:] for sign in signs]
        found = found + [text[:place] + text[place + 1:], text[:place] + text[place] + text[place:]]
    return found
