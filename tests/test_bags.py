import unittest

from pastdesk.bags import Bag
from pastdesk.books import ahead
from pastdesk.knots import leaf
from plainly import END, KindChecks, PLAIN, at_times, every_parting, every_row, grown, plain_tree, some_partings

KIND = Bag()
BIG = 10 ** 299 + 7


class BagToldOut(unittest.TestCase):
    def setUp(self):
        # The take at 6 has the 4 of 2, the one at 30 has 5.
        self.tree = grown(KIND, [
            (1, ("put", 5)), (2, ("put", 4)), (5, ("put", 7)), (6, ("take",)),
            (10, ("put", 9)), (12, ("look", 1)), (20, ("put", 7)), (30, ("take",)), (40, ("put", 4)),
        ])

    def test_totals(self):
        self.assertEqual(KIND.nothing(), (0, (), ()))
        self.assertEqual(KIND.lone(3, ("put", 9)), (0, (), ((9, 3),)))
        self.assertEqual(KIND.lone(3, ("take",)), (1, (), ()))
        self.assertEqual(KIND.lone(3, ("look", 2)), (0, (), ()))
        self.assertEqual(KIND.lone(3, ("many",)), (0, (), ()))
        self.assertEqual(self.tree[2], (0, ((4, 2), (5, 1)), ((4, 40), (7, 5), (7, 20), (9, 10))))

    def test_joined(self):
        # Rows of the first one's times up to 9, of the second one's from 10 on.
        told = {
            # What the second row lacks it has of the first, all of it or some.
            ((0, (), ((5, 1),)), (1, (), ())): (0, ((5, 1),), ()),
            ((0, (), ((5, 1), (6, 2))), (1, (), ())): (0, ((5, 1),), ((6, 2),)),
            ((2, (), ((5, 1),)), (3, (), ((0, 10),))): (4, ((5, 1),), ((0, 10),)),
            # A lesser number is taken in the place of a greater one, a greater one stays.
            ((0, (), ((5, 1),)), (0, ((7, 10),), ())): (0, ((5, 1),), ((7, 10),)),
            ((0, (), ((9, 1),)), (0, ((7, 10),), ())): (0, ((7, 10),), ((9, 1),)),
            # Among alike ones the earlier is taken.
            ((0, (), ((7, 1),)), (0, ((7, 10),), ())): (0, ((7, 1),), ((7, 10),)),
            # What is gone ahead does not come again, and what was left though lesser was put too late.
            ((1, ((1, 1),), ((5, 2),)), (0, ((7, 10),), ((3, 20),))): (1, ((1, 1), (5, 2)), ((3, 20), (7, 10))),
            # Where one take lacks a number and another has one, the two least of all go.
            ((0, (), ((8, 1), (9, 2))), (1, ((7, 10),), ((3, 20),))): (0, ((7, 10), (8, 1)), ((3, 20), (9, 2))),
            ((0, (), ()), (0, (), ())): (0, (), ()),
        }
        for one, other in told:
            with self.subTest(one=one, other=other):
                self.assertEqual(KIND.joined(one, other), told[(one, other)])

    def test_totals_hold_tuples(self):
        for total in (KIND.nothing(), KIND.lone(1, ("put", 2)), KIND.lone(1, ("take",)), self.tree[2]):
            for part in (total,) + total[1:] + total[1] + total[2]:
                self.assertIs(type(part), tuple)

    def test_fits(self):
        for total in ((0, (), ()), (0, (), ((1, 1),)), (0, ((1, 1),), ())):
            self.assertIs(KIND.fits(total), True)
        for total in ((1, (), ()), (1, ((1, 1),), ((2, 2),)), (300, (), ())):
            self.assertIs(KIND.fits(total), False)

    def test_behind_all(self):
        knots = ahead(self.tree, END)
        self.assertEqual(KIND.stand(knots), [4, 7, 7, 9])
        self.assertEqual(KIND.answer(knots, ("many",)), 4)
        self.assertIsNone(KIND.source(knots, ("many",)))
        told = [(4, 40), (7, 5), (7, 20), (9, 10), (None, None), (None, None)]
        for place, both in enumerate(told):
            with self.subTest(place=place):
                self.assertEqual(KIND.answer(knots, ("look", place)), both[0])
                self.assertEqual(KIND.source(knots, ("look", place)), both[1])
        self.assertEqual(KIND.answer(knots, ("take",)), 4)
        self.assertEqual(KIND.source(knots, ("take",)), 40)

    def test_at_times_between(self):
        told = {
            1: [], 2: [5], 3: [4, 5], 6: [4, 5, 7], 7: [5, 7], 11: [5, 7, 9], 21: [5, 7, 7, 9], 31: [7, 7, 9],
        }
        for end in told:
            with self.subTest(end=end):
                self.assertEqual(KIND.stand(ahead(self.tree, end)), told[end])
                self.assertEqual(KIND.answer(ahead(self.tree, end), ("take",)), (told[end] or [None])[0])

    def test_takes_that_find_nothing_are_gone_over(self):
        takes = [leaf(KIND, at, ("take",)) for at in (0, 2, 4)]
        put = leaf(KIND, 6, ("put", 3))
        self.assertEqual(KIND.stand(takes + [put]), [3])
        self.assertEqual(KIND.answer(takes + [put], ("take",)), 3)
        self.assertEqual(KIND.source(takes + [put], ("take",)), 6)
        early = [leaf(KIND, 1, ("put", 9))]
        self.assertEqual(KIND.stand(early + takes[1:] + [put]), [3])
        self.assertIsNone(KIND.answer(early + takes[1:] + [put], ("look", 1)))
        self.assertIsNone(KIND.source(early + takes[1:], ("take",)))


class AlikeNumbers(KindChecks, unittest.TestCase):
    kind = KIND
    plain = PLAIN["bag"]

    def test_one_number_put_many_times(self):
        asks = [("take",), ("many",)] + [("look", k) for k in range(6)]
        for deeds in every_row(lambda place: (("put", 8), ("take",)), 6):
            row = at_times(deeds, [0, 5, 6, 7, 8, END - 1])
            self.check_totals(row)
            self.check_row(row, every_parting(row), asks)

    def test_the_earliest_is_taken_first(self):
        row = [(at, ("put", 8)) for at in (3, 4, 10, 11, END - 1)]
        knots = [plain_tree(row, self.plain.total)]
        self.assertEqual([KIND.source(knots, ("look", k)) for k in range(6)], [3, 4, 10, 11, END - 1, None])
        self.assertEqual(KIND.source(knots, ("take",)), 3)

    def test_great_numbers(self):
        asks = [("take",), ("many",), ("look", BIG)] + [("look", k) for k in range(4)]
        for deeds in every_row(lambda place: (("put", BIG), ("put", -BIG), ("put", BIG - 1), ("take",)), 4):
            row = at_times(deeds, [2, 3, 500, END // 2])
            self.check_totals(row)
            self.check_row(row, some_partings(row), asks)


if __name__ == "__main__":
    unittest.main()
