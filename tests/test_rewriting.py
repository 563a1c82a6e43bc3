import unittest

from pastdesk.kinds import Kind
from pastdesk.rewriting import answers, failing, turned
from plainly import (
    END, KINDS, LONG, PLAIN, SMALL, TIMES, doable, every_book, grown, is_asked, mixed, plain_answers, plain_failing,
    plain_tree, plain_turned, some_book, with_deed, without,
)

BIG = 10 ** 299 + 7
FEW = (0, 6, END - 1)
FOUR = (END // 2 - 1, END // 2, END // 2 + 1, END - 1)


def tree_of(word, row):
    return plain_tree(row, PLAIN[word].total)


def long_books(word):
    """For each list of times its name, the long row, and those of its deeds that can be done one after another."""
    for name, times in TIMES.items():
        row = LONG[word](times)
        yield name, row, doable(PLAIN[word], row)


class Failing(unittest.TestCase):
    def test_no_deeds(self):
        for kind in list(KINDS.values()) + [Kind()]:
            self.assertIsNone(failing(kind, None))

    def test_told_out(self):
        told = {
            "sums": ([(0, ("add", 5)), (4, ("add", -6)), (5, ("add", 9)), (8, ("add", -9))], 4),
            "pile": ([(1, ("put", 5)), (4, ("take",)), (5, ("put", 9)), (7, ("take",)), (9, ("take",))], 9),
            "line": ([(0, ("take",)), (4, ("take",))], 0),
            "bag": ([(3, ("put", 1)), (5, ("put", 1)), (6, ("take",)), (7, ("take",)), (END - 1, ("take",))], END - 1),
            "names": ([(1, ("set", "a", 1)), (2, ("drop", "b")), (3, ("drop", "a")), (4, ("drop", "a"))], 2),
        }
        for word in told:
            with self.subTest(kind=word):
                row, at = told[word]
                self.assertEqual(failing(KINDS[word], grown(KINDS[word], mixed(row))), at)
                ahead_of_it = [entry for entry in row if entry[0] < at]
                self.assertIsNone(failing(KINDS[word], grown(KINDS[word], ahead_of_it)))

    def test_one_deed(self):
        cannot = {"sums": ("add", -1), "pile": ("take",), "line": ("take",), "bag": ("take",), "names": ("drop", "a")}
        for word, kind in KINDS.items():
            for at in (0, 5, END - 1):
                self.assertEqual(failing(kind, grown(kind, [(at, cannot[word])])), at)
                for deed in SMALL[word]:
                    told = None if PLAIN[word].can([(at, deed)]) else at
                    self.assertEqual(failing(kind, grown(kind, [(at, deed)])), told)

    def test_every_small_book(self):
        for word, kind in KINDS.items():
            for times in ((3, 4, 5, 6), (0, 1, 9, END - 1)):
                for row in every_book(SMALL[word], times):
                    told = failing(kind, tree_of(word, row))
                    self.assertEqual(told, plain_failing(PLAIN[word], row), (word, row))

    def test_long_books(self):
        for word, kind in KINDS.items():
            for name, row, done in long_books(word):
                with self.subTest(kind=word, times=name):
                    self.assertIsNone(failing(kind, tree_of(word, done)))
                    for book in (row, row[3:], row[1::2], row[len(row) // 2:], done[1:], done[2:]):
                        self.assertEqual(failing(kind, tree_of(word, book)), plain_failing(PLAIN[word], book))

    def test_each_deed_out_of_a_book_that_can_be_done(self):
        for word, kind in KINDS.items():
            done = [done for name, row, done in long_books(word) if name == "both ends and all between"][0]
            for at, deed in done:
                book = without(done, at)
                self.assertEqual(failing(kind, tree_of(word, book)), plain_failing(PLAIN[word], book), (word, at))

    def test_the_plain_kind(self):
        self.assertIsNone(failing(Kind(), plain_tree(some_book(TIMES["a run"]), len)))


class Answers(unittest.TestCase):
    def test_no_deeds(self):
        for kind in list(KINDS.values()) + [Kind()]:
            self.assertEqual(answers(kind, None), [])

    def test_told_out(self):
        taken = [(1, ("put", 3)), (2, ("put", 5)), (3, ("take",)), (4, ("look", 0)), (7, ("look", 1)), (8, ("many",))]
        rows = {
            "sums": [
                (0, ("reach", 1)), (1, ("add", 3)), (2, ("many",)), (5, ("add", -2)), (6, ("many",)), (7, ("peak",)),
                (9, ("reach", 3)), (END - 1, ("reach", 4)),
            ],
            "pile": taken,
            "line": taken,
            "bag": [(1, ("put", 5)), (2, ("put", 3)), (3, ("take",)), (4, ("take",)), (6, ("take",)), (7, ("many",))],
            "names": [
                (1, ("set", "b", 3)), (2, ("look", "b")), (3, ("look", "a")), (4, ("many",)), (7, ("drop", "b")),
                (8, ("drop", "b")), (9, ("many",)),
            ],
        }
        told = {
            "sums": [(0, None), (2, 3), (6, 1), (7, 3), (9, 1), (END - 1, None)],
            "pile": [(3, 5), (4, 3), (7, None), (8, 1)],
            "line": [(3, 3), (4, 5), (7, None), (8, 1)],
            "bag": [(3, 3), (4, 5), (6, None), (7, 0)],
            "names": [(2, 3), (3, None), (4, 1), (7, 3), (8, None), (9, 0)],
        }
        for word, kind in KINDS.items():
            with self.subTest(kind=word):
                self.assertEqual(answers(kind, grown(kind, mixed(rows[word]))), told[word])

    def test_every_small_book(self):
        for word, kind in KINDS.items():
            for times in ((3, 4, 5, 6), (0, 1, 9, END - 1)):
                for row in every_book(SMALL[word], times):
                    told = answers(kind, tree_of(word, row))
                    self.assertIs(type(told), list)
                    self.assertEqual(told, plain_answers(PLAIN[word], row), (word, row))

    def test_long_books(self):
        for word, kind in KINDS.items():
            for name, row, done in long_books(word):
                with self.subTest(kind=word, times=name):
                    for book in (row, done):
                        self.assertEqual(answers(kind, tree_of(word, book)), plain_answers(PLAIN[word], book))

    def test_great_numbers(self):
        kind = KINDS["sums"]
        tree = grown(kind, [(1, ("add", BIG)), (2, ("many",)), (3, ("reach", BIG)), (4, ("reach", BIG + 1))])
        self.assertEqual(answers(kind, tree), [(2, BIG), (3, 1), (4, None)])

    def test_the_plain_kind(self):
        self.assertEqual(answers(Kind(), plain_tree(some_book(TIMES["a run"]), len)), [])

    def test_a_list_told_is_the_askers_own(self):
        for word, kind in KINDS.items():
            tree = tree_of(word, LONG[word](TIMES["a run"]))
            for asked in (None, tree):
                first = answers(kind, asked)
                kept = list(first)
                second = answers(kind, asked)
                first.append((5, 5))
                first.reverse()
                self.assertEqual(second, kept)
                second.clear()
                self.assertEqual(answers(kind, asked), kept)


class Turned(unittest.TestCase):
    def check(self, word, old, new):
        trees = (tree_of(word, old), tree_of(word, new))
        told = turned(KINDS[word], trees[0], trees[1])
        self.assertIs(type(told), list)
        self.assertEqual(told, plain_turned(PLAIN[word], old, new), (word, old, new))
        self.assertEqual(trees, (tree_of(word, old), tree_of(word, new)))

    def test_no_deeds(self):
        for word, kind in KINDS.items():
            tree = tree_of(word, LONG[word](TIMES["a run"]))
            for old, new in ((None, None), (None, tree), (tree, None), (tree, tree)):
                self.assertEqual(turned(kind, old, new), [])

    def test_told_out(self):
        kind = KINDS["pile"]
        old = [(1, ("put", 3)), (5, ("look", 0)), (6, ("many",)), (7, ("take",)), (9, ("look", 0)), (10, ("take",))]
        new = with_deed(with_deed(old, 2, ("put", 3)), 10, ("many",))
        told = turned(kind, grown(kind, old), grown(kind, new))
        # The look at 5 has a 3 in both; at 10 stand unlike deeds.
        self.assertEqual(told, [(6, 1, 2), (9, None, 3)])
        told = turned(kind, grown(kind, new), grown(kind, old))
        self.assertEqual(told, [(6, 2, 1), (9, 3, None)])
        for each in told:
            self.assertIs(type(each), tuple)

    def test_none_and_0_are_unlike(self):
        kind = KINDS["names"]
        old = grown(kind, [(4, ("look", "a"))])
        new = grown(kind, [(0, ("set", "a", 0)), (4, ("look", "a"))])
        self.assertEqual(turned(kind, old, new), [(4, None, 0)])
        self.assertEqual(turned(kind, new, old), [(4, 0, None)])

    def test_unlike_asked_deeds_at_the_same_time(self):
        for word, kind in KINDS.items():
            first = {"sums": ("add", 1), "names": ("set", "a", 5)}.get(word, ("put", 5))
            asked = [deed for deed in SMALL[word] if is_asked(deed)]
            for one in asked + [("many",)]:
                for other in asked + [("many",)]:
                    self.check(word, [(1, first), (2, one)], [(2, other)])
                    self.check(word, [(2, one)], [(1, first), (2, other)])
                    self.check(word, [(2, one)], [(1, one), (2, other)])

    def test_every_two_small_books(self):
        for word in KINDS:
            books = every_book(SMALL[word], FEW)
            for old in books[::2]:
                for new in books[1::3]:
                    self.check(word, old, new)

    def test_small_books_that_share_some_deeds(self):
        for word in KINDS:
            for old in every_book(SMALL[word], FOUR)[::3]:
                for at in FOUR:
                    self.check(word, old, without(old, at))
                    self.check(word, old, with_deed(old, at, SMALL[word][0]))
                    self.check(word, without(old, at), with_deed(old, at, SMALL[word][2]))

    def test_long_books(self):
        for word in KINDS:
            for name, row, done in long_books(word):
                with self.subTest(kind=word, times=name):
                    for old, new in ((row, done), (done, row[3:]), (row[1::2], row), (row[::2], row[1::2])):
                        self.check(word, old, new)
                    middle = TIMES[name][len(row) // 2] if row else 0
                    late = [entry for entry in done if entry[0] >= middle]
                    self.check(word, done, row[:len(row) // 2] + late)

    def test_one_early_deed_more_or_less(self):
        for word in KINDS:
            row = LONG[word](TIMES["both ends and all between"])
            for at in [at for at, deed in row][:20:3]:
                self.check(word, row, without(row, at))
                self.check(word, without(row, at), row)

    def test_a_list_told_is_the_askers_own(self):
        for word, kind in KINDS.items():
            row = LONG[word](TIMES["a run"])
            old, new = tree_of(word, row), tree_of(word, row[1:])
            first = turned(kind, old, new)
            kept = list(first)
            second = turned(kind, old, new)
            first.append((5, 5, 6))
            first.reverse()
            self.assertEqual(second, kept)
            second.clear()
            self.assertEqual(turned(kind, old, new), kept)
            none = turned(kind, old, old)
            none.append(5)
            self.assertEqual(turned(kind, old, old), [])

    def test_the_plain_kind(self):
        one = plain_tree(some_book(TIMES["a run"]), len)
        self.assertEqual(turned(Kind(), one, plain_tree(some_book(TIMES["a run with a gap"]), len)), [])

    def test_the_arguments_bear_their_names(self):
        kind = KINDS["line"]
        new = grown(kind, [(1, ("take",))])
        old = grown(kind, [(0, ("put", 5)), (1, ("take",))])
        self.assertEqual(failing(tree=new, kind=kind), 1)
        self.assertEqual(answers(tree=new, kind=kind), [(1, None)])
        self.assertEqual(turned(new=new, old=old, kind=kind), [(1, 5, None)])


if __name__ == "__main__":
    unittest.main()
