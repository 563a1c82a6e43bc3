import unittest

from pastdesk.books import ahead, deed_at, deeds_of, inside, parted, touched
from pastdesk.kinds import Kind
from pastdesk.knots import put_in, taken_out
from plainly import (
    END, TIMES, ends_about, knots_of, mixed, plain_tree, some_book, some_deed, stretches_about, with_deed, without,
)

BOOKS = {name: some_book(times) for name, times in TIMES.items()}
TREES = {name: plain_tree(BOOKS[name], len) for name in BOOKS}
FEW = [name for name in BOOKS if len(BOOKS[name]) <= 40]


def plain_touched(old, new):
    there = {one: True for one in knots_of(old)}
    return [one[:2] for one in knots_of(new) if one not in there]


def plain_parted(old, new):
    times = sorted({at for at, deed in old} | {at for at, deed in new})
    return [at for at in times if dict(old).get(at, "none") != dict(new).get(at, "none")]


class Told(unittest.TestCase):
    def check_own_list(self, tell, told):
        """That the list told is a new one each time, and the asker's own."""
        first = tell()
        second = tell()
        self.assertIs(type(first), list)
        self.assertEqual(first, told)
        self.assertIsNot(first, second)
        first.reverse()
        first.append("more")
        self.assertEqual(second, told)
        first.clear()
        self.assertEqual(tell(), told)
        self.assertEqual(second, told)


class DeedsOf(Told):
    def test_the_book_of_each_tree(self):
        for name in BOOKS:
            with self.subTest(times=name):
                self.check_own_list(lambda: deeds_of(TREES[name]), BOOKS[name])
                self.assertTrue(all(type(entry) is tuple for entry in deeds_of(TREES[name])))

    def test_the_tree_without_deeds(self):
        self.assertEqual(deeds_of(None), [])

    def test_a_list_told_stays_when_the_book_goes_on(self):
        tree = TREES["three"]
        first = deeds_of(tree)
        more = put_in(Kind(), tree, 7, ("put", 7))
        less = taken_out(Kind(), more, 1)
        self.assertEqual(first, BOOKS["three"])
        self.assertEqual(deeds_of(more), with_deed(BOOKS["three"], 7, ("put", 7)))
        self.assertEqual(deeds_of(less), without(with_deed(BOOKS["three"], 7, ("put", 7)), 1))

    def test_the_argument_bears_its_name(self):
        self.assertEqual(deeds_of(tree=TREES["one"]), BOOKS["one"])


class DeedAt(unittest.TestCase):
    def test_the_deed_at_each_time_and_none_next_to_them(self):
        for name, times in TIMES.items():
            book = dict(BOOKS[name])
            for at in sorted({at + step for at in times for step in (-1, 0, 1)} | {0, 9, END // 2, END - 1}):
                if 0 <= at < END:
                    with self.subTest(times=name, at=at):
                        self.assertEqual(deed_at(TREES[name], at), book.get(at))

    def test_the_tree_without_deeds(self):
        for at in (0, 5, END - 1):
            self.assertIsNone(deed_at(None, at))

    def test_the_arguments_bear_their_names(self):
        self.assertEqual(deed_at(at=77, tree=TREES["one"]), some_deed(77))


class Inside(unittest.TestCase):
    def check(self, name, stretch):
        low, size = stretch
        held = [(at, deed) for at, deed in BOOKS[name] if low <= at < low + size]
        told = inside(TREES[name], stretch)
        with self.subTest(times=name, stretch=stretch):
            self.assertEqual(told, plain_tree(held, len))

    def test_stretches_of_every_size_about_the_times(self):
        for name, times in TIMES.items():
            near = times if len(times) <= 20 else times[:6] + times[len(times) // 2:][:5] + times[-6:]
            for stretch in stretches_about(near):
                self.check(name, stretch)

    def test_single_times(self):
        for name, times in TIMES.items():
            for at in times:
                self.check(name, (at, 1))
                for near in (at - 1, at + 1):
                    if 0 <= near < END:
                        self.check(name, (near, 1))

    def test_all_times(self):
        for name in TIMES:
            with self.subTest(times=name):
                self.assertEqual(inside(TREES[name], (0, END)), TREES[name])

    def test_the_tree_without_deeds(self):
        for stretch in ((0, 1), (0, END), (END - 1, 1), (64, 64)):
            self.assertIsNone(inside(None, stretch))

    def test_the_stretch_of_each_knot_tells_that_knot(self):
        for name in TIMES:
            for one in knots_of(TREES[name]):
                with self.subTest(times=name, stretch=one[:2]):
                    self.assertEqual(inside(TREES[name], one[:2]), one)

    def test_the_arguments_bear_their_names(self):
        self.assertEqual(inside(stretch=(64, 64), tree=TREES["one"]), TREES["one"])


class Ahead(Told):
    def check(self, name, end):
        book = [(at, deed) for at, deed in BOOKS[name] if at < end]
        told = ahead(TREES[name], end)
        with self.subTest(times=name, end=end):
            self.assertIs(type(told), list)
            self.assertLessEqual(len(told), 30)
            self.assertEqual([entry for one in told for entry in deeds_of(one)], book)
            self.assertEqual(told, self.plain_ahead(book, end))

    def plain_ahead(self, book, end):
        told = []
        low = 0
        for size in [2 ** power for power in range(30, -1, -1)]:
            if low + size <= end:
                there = plain_tree([entry for entry in book if low <= entry[0] < low + size], len)
                told = told + ([] if there is None else [there])
                low = low + size
        return told

    def test_each_time_of_the_book_and_its_neighbours(self):
        for name, times in TIMES.items():
            near = times if len(times) <= 70 else mixed(times)[:70]
            for end in ends_about(near):
                self.check(name, end)

    def test_nothing_is_ahead_of_the_first_time(self):
        for name in TIMES:
            with self.subTest(times=name):
                self.assertEqual(ahead(TREES[name], 0), [])

    def test_all_is_ahead_of_the_end(self):
        for name in TIMES:
            with self.subTest(times=name):
                told = [] if TREES[name] is None else [TREES[name]]
                self.assertEqual(ahead(TREES[name], END), told)

    def test_the_tree_without_deeds(self):
        for end in (0, 1, 700, END - 1, END):
            self.assertEqual(ahead(None, end), [])

    def test_thirty_knots(self):
        # A deed at the first time of each stretch of the cover, so that none of them is bare.
        begins = [END - 2 ** power for power in range(30, 0, -1)]
        told = ahead(plain_tree(some_book(begins), len), END - 1)
        self.assertEqual(told, [plain_tree(some_book([at]), len) for at in begins])
        self.assertEqual(len(told), 30)

    def test_a_list_told_is_the_askers_own(self):
        for name in ("none", "one", "three", "a run", "powers of two"):
            for end in (0, 7, 1001, END):
                with self.subTest(times=name, end=end):
                    self.check_own_list(lambda: ahead(TREES[name], end), ahead(TREES[name], end))

    def test_the_arguments_bear_their_names(self):
        self.assertEqual(ahead(end=78, tree=TREES["one"]), [TREES["one"]])


class Touched(Told):
    def check(self, old, new):
        told = touched(old, new)
        self.assertIs(type(told), list)
        self.assertEqual(told, plain_touched(old, new))
        self.assertTrue(all(type(stretch) is tuple for stretch in told))
        return told

    def check_one_change(self, old, new, at):
        """What is told besides where new is old with one deed put in or taken out at a time."""
        told = self.check(old, new)
        self.assertLessEqual(len(told), 31)
        self.assertLessEqual(len(told), len(deeds_of(new)))
        for low, size in told:
            self.assertTrue(low <= at < low + size)
        for outer, inner in zip(told, told[1:]):
            self.assertTrue(outer[0] <= inner[0] and inner[0] + inner[1] <= outer[0] + outer[1])
            self.assertLess(inner[1], outer[1])

    def test_a_tree_and_itself(self):
        for name in TIMES:
            with self.subTest(times=name):
                self.assertEqual(touched(TREES[name], TREES[name]), [])
                self.assertEqual(touched(TREES[name], plain_tree(BOOKS[name], len)), [])

    def test_none_and_a_tree(self):
        for name in TIMES:
            with self.subTest(times=name):
                self.assertEqual(touched(None, TREES[name]), [one[:2] for one in knots_of(TREES[name])])
                self.assertEqual(touched(TREES[name], None), [])

    def test_their_order_told_out(self):
        tree = plain_tree(some_book([1, 2, 4, 5, 7]), len)
        self.assertEqual(
            touched(None, tree),
            [(0, 8), (0, 4), (1, 1), (2, 1), (4, 4), (4, 2), (4, 1), (5, 1), (7, 1)],
        )
        self.assertEqual(touched(taken_out(Kind(), tree, 5), tree), [(0, 8), (4, 4), (4, 2), (5, 1)])
        self.assertEqual(touched(tree, taken_out(Kind(), tree, 5)), [(0, 8), (4, 4)])
        self.assertEqual(touched(tree, taken_out(Kind(), tree, 7)), [(0, 8)])

    def test_one_deed_taken_out_or_put_in(self):
        for name, times in TIMES.items():
            for at in mixed(times)[:45]:
                less = plain_tree(without(BOOKS[name], at), len)
                with self.subTest(times=name, at=at):
                    self.check_one_change(less, TREES[name], at)
                    self.check_one_change(TREES[name], less, at)

    def test_one_deed_put_for_another(self):
        for name, times in TIMES.items():
            for at in mixed(times)[:45]:
                other = plain_tree(with_deed(BOOKS[name], at, ("other", 1)), len)
                with self.subTest(times=name, at=at):
                    told = self.check(TREES[name], other)
                    self.assertEqual(told, [one[:2] for one in knots_of(other) if one[0] <= at < one[0] + one[1]])

    def test_as_many_as_there_can_be(self):
        # Deeds at 0 and at each power of two: there is a knot of each size that holds 0.
        tree = put_in(Kind(), TREES["powers of two"], 0, ("x",))
        told = touched(TREES["powers of two"], tree)
        self.assertEqual(told, [(0, 2 ** power) for power in range(30, -1, -1)])
        self.assertEqual(len(told), 31)

    def test_trees_that_part_by_many_deeds(self):
        for one in FEW:
            for other in FEW:
                with self.subTest(old=one, new=other):
                    self.check(TREES[one], TREES[other])

    def test_the_same_times_and_other_deeds(self):
        for name, times in TIMES.items():
            other = plain_tree([(at, ("other",)) for at in times], len)
            with self.subTest(times=name):
                self.assertEqual(touched(TREES[name], other), [one[:2] for one in knots_of(other)])

    def test_a_list_told_is_the_askers_own(self):
        self.check_own_list(lambda: touched(None, TREES["three"]), plain_touched(None, TREES["three"]))
        self.check_own_list(lambda: touched(TREES["a run"], TREES["a run"]), [])

    def test_the_arguments_bear_their_names(self):
        self.assertEqual(touched(new=TREES["one"], old=None), [(77, 1)])


class Parted(Told):
    def check(self, old, new):
        told = parted(plain_tree(old, len), plain_tree(new, len))
        self.assertIs(type(told), list)
        self.assertEqual(told, plain_parted(old, new))
        return told

    def test_a_tree_and_itself(self):
        for name in TIMES:
            with self.subTest(times=name):
                self.assertEqual(parted(TREES[name], TREES[name]), [])
                self.assertEqual(parted(TREES[name], plain_tree(BOOKS[name], len)), [])

    def test_none_and_a_tree(self):
        for name, times in TIMES.items():
            with self.subTest(times=name):
                self.assertEqual(parted(None, TREES[name]), times)
                self.assertEqual(parted(TREES[name], None), times)

    def test_one_deed_put_in_taken_out_or_put_for_another(self):
        for name, times in TIMES.items():
            for at in mixed(times)[:45]:
                less = without(BOOKS[name], at)
                other = with_deed(less, at, ("other", 1))
                with self.subTest(times=name, at=at):
                    self.assertEqual(self.check(less, BOOKS[name]), [at])
                    self.assertEqual(self.check(BOOKS[name], less), [at])
                    self.assertEqual(self.check(BOOKS[name], other), [at])
                    self.assertEqual(self.check(other, BOOKS[name]), [at])

    def test_deeds_that_part_by_a_number_or_a_word_alone(self):
        for one, other in ((("put", 1), ("put", 2)), (("put", 1), ("look", 1)), (("put", 1), ("put", "1")),
                           (("put",), ("put", 0)), (("set", "a", 1), ("set", "b", 1))):
            with self.subTest(one=one, other=other):
                self.assertEqual(self.check([(3, one), (5, one)], [(3, one), (5, other)]), [5])

    def test_trees_that_part_by_many_deeds(self):
        for one in FEW:
            for other in FEW:
                with self.subTest(old=one, new=other):
                    self.check(BOOKS[one], BOOKS[other])

    def test_the_same_times_and_other_deeds(self):
        for name, times in TIMES.items():
            with self.subTest(times=name):
                self.assertEqual(self.check(BOOKS[name], [(at, ("other",)) for at in times]), times)

    def test_a_list_told_is_the_askers_own(self):
        self.check_own_list(lambda: parted(None, TREES["three"]), TIMES["three"])
        self.check_own_list(lambda: parted(TREES["a run"], TREES["a run"]), [])

    def test_the_arguments_bear_their_names(self):
        self.assertEqual(parted(new=TREES["one"], old=None), [77])


if __name__ == "__main__":
    unittest.main()
