import unittest

from pastdesk.books import deeds_of
from pastdesk.errors import Bare, PastError, Taken
from pastdesk.kinds import Kind
from pastdesk.knots import knot, leaf, put_in, taken_out
from plainly import (
    END, TIMES, all_tuples, knots_of, least_stretch, mixed, orders, plain_tree, some_book, some_deed, with_deed,
    without,
)


class Written(Kind):
    """A kind whose total tells the whole row, so that a deed left out, done twice or in the wrong order shows."""

    def lone(self, at, deed):
        return ((at, deed),)

    def nothing(self):
        return ()

    def joined(self, one, other):
        return one + other


TOTALS = ((Kind(), len), (Written(), tuple))


def grown(kind, book):
    tree = None
    for at, deed in book:
        tree = put_in(kind, tree, at, deed)
    return tree


def few_times(times, most):
    """At most so many of the times, the first and the last among them."""
    step = max(1, -(-len(times) // most))
    return sorted(set(times[::step]) | set(times[:1]) | set(times[-1:]))


class Leaf(unittest.TestCase):
    def test_the_knot_of_one_deed(self):
        for at in (0, 1, 5, END // 2, END - 1):
            for deed in (("take",), ("put", -4), ("set", "ink", 10 ** 30), ("x",)):
                with self.subTest(at=at, deed=deed):
                    self.assertEqual(leaf(Kind(), at, deed), (at, 1, 1, deed))
                    self.assertIs(type(leaf(Kind(), at, deed)), tuple)
                    self.assertEqual(leaf(Written(), at, deed), (at, 1, ((at, deed),), deed))

    def test_the_arguments_bear_their_names(self):
        self.assertEqual(leaf(kind=Kind(), at=6, deed=("take",)), (6, 1, 1, ("take",)))


class Knot(unittest.TestCase):
    def test_the_knot_of_two_deeds(self):
        told = {
            (0, 1): (0, 2), (4, 5): (4, 2), (3, 4): (0, 8), (1, 2): (0, 4), (6, 9): (0, 16),
            (1023, 1024): (0, 2048), (1024, 1536): (1024, 1024), (END // 2 - 1, END // 2): (0, END),
            (0, END - 1): (0, END), (END - 2, END - 1): (END - 2, 2), (END // 2, END - 1): (END // 2, END // 2),
        }
        for early, late in told:
            with self.subTest(early=early, late=late):
                left = leaf(Kind(), early, ("put", 1))
                right = leaf(Kind(), late, ("take",))
                low, size = told[(early, late)]
                self.assertEqual(knot(Kind(), left, right), (low, size, 2, left, right))
                self.assertIs(type(knot(Kind(), left, right)), tuple)

    def test_the_knot_of_the_two_sides_of_each_book(self):
        for name, times in TIMES.items():
            if len(times) < 2:
                continue
            low, size = least_stretch(times)
            for kind, total in TOTALS:
                with self.subTest(times=name, kind=kind):
                    book = some_book(times)
                    left = plain_tree([entry for entry in book if entry[0] < low + size // 2], total)
                    right = plain_tree([entry for entry in book if entry[0] >= low + size // 2], total)
                    self.assertEqual(knot(kind, left, right), plain_tree(book, total))

    def test_the_arguments_bear_their_names(self):
        left = leaf(Kind(), 4, ("many",))
        right = leaf(Kind(), 7, ("take",))
        self.assertEqual(knot(kind=Kind(), right=right, left=left), (4, 4, 2, left, right))


class PutIn(unittest.TestCase):
    def test_one_book_has_just_one_tree_in_whatever_order_it_was_written(self):
        for name, times in TIMES.items():
            for kind, total in TOTALS:
                told = plain_tree(some_book(times), total)
                for order in orders(some_book(times)):
                    with self.subTest(times=name, kind=kind, first=order[:1]):
                        tree = grown(kind, order)
                        self.assertEqual(tree, told)
                        self.assertTrue(all_tuples(tree))

    def test_every_order_of_five_deeds(self):
        def every_order(things):
            if not things:
                return [[]]
            return [
                [first] + rest
                for place, first in enumerate(things)
                for rest in every_order(things[:place] + things[place + 1:])
            ]

        for times in ([0, 1, 2, 3, 4], [1, 2, 6, 7, 8], [0, 3, 4, END // 2, END - 1]):
            told = plain_tree(some_book(times), tuple)
            for order in every_order(some_book(times)):
                with self.subTest(order=order):
                    self.assertEqual(grown(Written(), order), told)

    def test_no_deeds_no_knot(self):
        self.assertIsNone(grown(Kind(), []))

    def test_the_knots_told_out(self):
        one = (5, 1, 1, ("a",))
        self.assertEqual(grown(Kind(), [(5, ("a",))]), one)
        two = (4, 4, 2, one, (7, 1, 1, ("b", 2)))
        self.assertEqual(grown(Kind(), [(7, ("b", 2)), (5, ("a",))]), two)
        three = (0, 16, 3, two, (8, 1, 1, ("c",)))
        self.assertEqual(grown(Kind(), [(8, ("c",)), (7, ("b", 2)), (5, ("a",))]), three)
        four = (0, END, 4, three, (END - 1, 1, 1, ("a",)))
        self.assertEqual(grown(Kind(), [(7, ("b", 2)), (END - 1, ("a",)), (8, ("c",)), (5, ("a",))]), four)

    def test_the_stretch_the_total_and_the_halves_of_each_knot(self):
        for name, times in TIMES.items():
            for one in knots_of(grown(Kind(), some_book(times))):
                with self.subTest(times=name, stretch=one[:2]):
                    held = [at for at in times if one[0] <= at < one[0] + one[1]]
                    self.assertEqual(one[:2], least_stretch(held))
                    self.assertEqual(one[2], len(held))
                    if one[1] == 1:
                        self.assertEqual(one[3:], (some_deed(held[0]),))
                    else:
                        middle = one[0] + one[1] // 2
                        left, right = one[3:]
                        self.assertEqual([at for at, deed in deeds_of(left)], [at for at in held if at < middle])
                        self.assertEqual([at for at, deed in deeds_of(right)], [at for at in held if at >= middle])

    def test_where_a_deed_stands_it_is_refused(self):
        for name, times in TIMES.items():
            for kind, total in TOTALS:
                tree = grown(kind, some_book(times))
                for at in few_times(times, 40):
                    for deed in (some_deed(at), ("other",)):
                        with self.subTest(times=name, at=at, deed=deed):
                            with self.assertRaises(Taken) as caught:
                                put_in(kind, tree, at, deed)
                            self.assertIsInstance(caught.exception, PastError)
                            self.assertEqual(tree, plain_tree(some_book(times), total))

    def test_a_tree_kept_from_before_has_the_deeds_it_had(self):
        for name, times in TIMES.items():
            if len(times) > 100:
                continue
            kept = [(None, [])]
            for at, deed in mixed(some_book(times)):
                tree, book = kept[-1]
                kept.append((put_in(Kind(), tree, at, deed), with_deed(book, at, deed)))
            for tree, book in kept:
                with self.subTest(times=name, deeds=len(book)):
                    self.assertEqual(tree, plain_tree(book, len))

    def test_no_more_than_31_knots_are_new(self):
        for name, times in TIMES.items():
            tree = None
            for at, deed in mixed(some_book(times)):
                before = {one: True for one in knots_of(tree)}
                tree = put_in(Kind(), tree, at, deed)
                fresh = [one for one in knots_of(tree) if one not in before]
                with self.subTest(times=name, at=at):
                    self.assertLessEqual(len(fresh), 31)
                    self.assertTrue(all(one[0] <= at < one[0] + one[1] for one in fresh))

    def test_the_arguments_bear_their_names(self):
        tree = put_in(kind=Kind(), tree=None, at=3, deed=("take",))
        self.assertEqual(tree, (3, 1, 1, ("take",)))


class TakenOut(unittest.TestCase):
    def test_deeds_taken_out_one_after_another(self):
        for name, times in TIMES.items():
            for kind, total in TOTALS:
                for order in orders(times):
                    tree = grown(kind, some_book(times))
                    book = some_book(times)
                    # Every step where that is not too much, else the last sixty.
                    for at in order:
                        tree = taken_out(kind, tree, at)
                        book = without(book, at)
                        if len(book) < 60:
                            with self.subTest(times=name, kind=kind, at=at):
                                self.assertEqual(tree, plain_tree(book, total))
                                self.assertTrue(all_tuples(tree))
                    self.assertIsNone(tree)

    def test_each_deed_taken_out_and_put_in_again(self):
        for name, times in TIMES.items():
            for kind, total in TOTALS:
                tree = grown(kind, some_book(times))
                for at in few_times(times, 40):
                    with self.subTest(times=name, kind=kind, at=at):
                        less = taken_out(kind, tree, at)
                        self.assertEqual(less, plain_tree(without(some_book(times), at), total))
                        self.assertEqual(put_in(kind, less, at, some_deed(at)), tree)
                        self.assertEqual(tree, plain_tree(some_book(times), total))
                        other = put_in(kind, less, at, ("other", 5))
                        self.assertEqual(other, plain_tree(with_deed(some_book(times), at, ("other", 5)), total))

    def test_the_last_one_taken_out_gives_none(self):
        for at in (0, 6, END - 1):
            with self.subTest(at=at):
                self.assertIsNone(taken_out(Kind(), leaf(Kind(), at, ("x",)), at))

    def test_a_deed_put_in_and_taken_out_again(self):
        for name, times in TIMES.items():
            tree = grown(Written(), some_book(times))
            stand = {at: True for at in times}
            for at in few_times(times, 20):
                for near in (at - 1, at + 1, (at + 12345) % END):
                    if near in stand or not 0 <= near < END:
                        continue
                    with self.subTest(times=name, at=near):
                        more = put_in(Written(), tree, near, ("guest",))
                        self.assertEqual(taken_out(Written(), more, near), tree)

    def test_where_no_deed_stands_it_is_refused(self):
        for name, times in TIMES.items():
            tree = grown(Kind(), some_book(times))
            stand = {at: True for at in times}
            gaps = [0, 1, 21, END // 2, END - 9, END - 2, END - 1]
            gaps = gaps + [at + step for at in few_times(times, 40) for step in (-1, 1)]
            for at in gaps:
                if at in stand or not 0 <= at < END:
                    continue
                with self.subTest(times=name, at=at):
                    with self.assertRaises(Bare) as caught:
                        taken_out(Kind(), tree, at)
                    self.assertIsInstance(caught.exception, PastError)
                    self.assertEqual(deeds_of(tree), some_book(times))

    def test_no_more_than_31_knots_are_new(self):
        for name, times in TIMES.items():
            tree = grown(Kind(), some_book(times))
            for at in mixed(times):
                before = {one: True for one in knots_of(tree)}
                tree = taken_out(Kind(), tree, at)
                fresh = [one for one in knots_of(tree) if one not in before]
                with self.subTest(times=name, at=at):
                    self.assertLessEqual(len(fresh), 31)
                    self.assertTrue(all(one[0] <= at < one[0] + one[1] for one in fresh))

    def test_a_tree_kept_from_before_has_the_deeds_it_had(self):
        for name, times in TIMES.items():
            if len(times) > 100:
                continue
            kept = [(grown(Kind(), some_book(times)), some_book(times))]
            for at in mixed(times):
                tree, book = kept[-1]
                kept.append((taken_out(Kind(), tree, at), without(book, at)))
            for tree, book in kept:
                with self.subTest(times=name, deeds=len(book)):
                    self.assertEqual(tree, plain_tree(book, len))

    def test_the_arguments_bear_their_names(self):
        self.assertIsNone(taken_out(kind=Kind(), tree=(3, 1, 1, ("take",)), at=3))


if __name__ == "__main__":
    unittest.main()
