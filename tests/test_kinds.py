import unittest

from pastdesk.books import ahead
from pastdesk.kinds import Kind
from pastdesk.knots import leaf, put_in

TUPLES = (
    (), ("",), ("put",), ("put", 4), ("put", -(10 ** 30)), ("take",), ("look", 0), ("look", "ink"),
    ("many",), ("add", 5), ("peak",), ("reach", 1), ("set", "ink", 9), ("drop", "ink"),
    ("put", True), ("put", None), (None,), (True,), (0,), (1, 2, 3), ("word", "word", "word"),
)


def lists_of_knots():
    kind = Kind()
    tree = None
    for at in (4, 9, 0, 700, 2 ** 30 - 1):
        tree = put_in(kind, tree, at, ("put", at))
    return ([], [leaf(kind, 3, ("take",))], [leaf(kind, 3, ("take",)), leaf(kind, 5, ("many",))], [tree],
            ahead(tree, 701), ahead(tree, 2 ** 30 - 1))


class PlainKind(unittest.TestCase):
    def test_it_knows_no_deed_and_has_no_asked_one(self):
        kind = Kind()
        for deed in TUPLES:
            with self.subTest(deed=deed):
                self.assertIs(kind.knows(deed), False)
                self.assertIs(kind.asked(deed), False)

    def test_the_total_of_a_deed_alone_is_one(self):
        kind = Kind()
        for at in (0, 1, 12345, 2 ** 30 - 1):
            for deed in TUPLES:
                with self.subTest(at=at, deed=deed):
                    self.assertEqual(kind.lone(at, deed), 1)
                    self.assertIs(type(kind.lone(at, deed)), int)

    def test_the_total_of_no_deeds_is_zero(self):
        self.assertEqual(Kind().nothing(), 0)
        self.assertIs(type(Kind().nothing()), int)

    def test_the_total_of_two_rows_is_the_sum(self):
        kind = Kind()
        for one in (0, 1, 2, 7, 150, 299):
            for other in (0, 1, 2, 7, 150, 299):
                with self.subTest(one=one, other=other):
                    self.assertEqual(kind.joined(one, other), one + other)

    def test_every_row_can_be_done(self):
        for total in (0, 1, 2, 300):
            with self.subTest(total=total):
                self.assertIs(Kind().fits(total), True)

    def test_it_answers_none_and_nothing_stands(self):
        kind = Kind()
        for knots in lists_of_knots():
            for deed in TUPLES:
                with self.subTest(knots=knots, deed=deed):
                    self.assertIsNone(kind.answer(knots, deed))
                    self.assertIsNone(kind.source(knots, deed))
            with self.subTest(knots=knots):
                self.assertEqual(kind.stand(knots), [])

    def test_the_list_of_what_stands_is_a_new_one_each_time(self):
        kind = Kind()
        for knots in lists_of_knots():
            with self.subTest(knots=knots):
                first = kind.stand(knots)
                second = kind.stand(knots)
                self.assertIs(type(first), list)
                self.assertIsNot(first, second)
                self.assertIsNot(first, knots)
                first.append(5)
                self.assertEqual(second, [])
                self.assertEqual(kind.stand(knots), [])
                self.assertEqual(first, [5])

    def test_the_list_handed_in_is_not_changed(self):
        kind = Kind()
        for knots in lists_of_knots():
            kept = list(knots)
            kind.answer(knots, ("take",))
            kind.source(knots, ("take",))
            kind.stand(knots).append(1)
            self.assertEqual(knots, kept)

    def test_the_arguments_bear_their_names(self):
        kind = Kind()
        self.assertIs(kind.knows(deed=("take",)), False)
        self.assertIs(kind.asked(deed=("take",)), False)
        self.assertEqual(kind.lone(at=5, deed=("take",)), 1)
        self.assertEqual(kind.joined(one=2, other=3), 5)
        self.assertIs(kind.fits(total=3), True)
        self.assertIsNone(kind.answer(knots=[], deed=("take",)))
        self.assertIsNone(kind.source(knots=[], deed=("take",)))
        self.assertEqual(kind.stand(knots=[]), [])


if __name__ == "__main__":
    unittest.main()
