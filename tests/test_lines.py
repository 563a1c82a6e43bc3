import unittest

from pastdesk.books import ahead
from pastdesk.knots import leaf
from pastdesk.lines import Line
from plainly import grown

KIND = Line()


class LineToldOut(unittest.TestCase):
    def setUp(self):
        # The take at 6 has 5, the one at 30 has 4.
        self.tree = grown(KIND, [
            (1, ("put", 5)), (2, ("put", 4)), (5, ("put", 7)), (6, ("take",)),
            (10, ("put", 9)), (12, ("look", 1)), (20, ("put", 8)), (30, ("take",)), (40, ("put", 4)),
        ])

    def test_totals(self):
        self.assertEqual(KIND.nothing(), (0, 0, 0))
        self.assertEqual(KIND.lone(3, ("put", 9)), (0, 1, 0))
        self.assertEqual(KIND.lone(3, ("take",)), (1, 0, 1))
        self.assertEqual(KIND.lone(3, ("look", 2)), (0, 0, 0))
        self.assertEqual(KIND.lone(3, ("many",)), (0, 0, 0))
        self.assertEqual(self.tree[2], (0, 6, 2))

    def test_joined(self):
        told = {
            ((0, 3, 0), (2, 0, 2)): (0, 3, 2), ((0, 3, 1), (2, 4, 3)): (0, 7, 4), ((0, 3, 0), (5, 0, 5)): (2, 3, 5),
            ((0, 3, 3), (1, 2, 2)): (1, 5, 5), ((4, 0, 4), (3, 6, 3)): (7, 6, 7), ((4, 1, 4), (3, 6, 3)): (6, 7, 7),
            ((4, 9, 5), (3, 6, 4)): (4, 15, 9), ((2, 1, 2), (0, 0, 0)): (2, 1, 2), ((0, 0, 0), (2, 1, 3)): (2, 1, 3),
        }
        for one, other in told:
            with self.subTest(one=one, other=other):
                self.assertEqual(KIND.joined(one, other), told[(one, other)])

    def test_fits(self):
        for total in ((0, 0, 0), (0, 1, 0), (0, 150, 150)):
            self.assertIs(KIND.fits(total), True)
        for total in ((1, 0, 1), (1, 5, 2), (300, 0, 300)):
            self.assertIs(KIND.fits(total), False)

    def test_behind_all(self):
        knots = ahead(self.tree, 2 ** 30)
        self.assertEqual(KIND.stand(knots), [7, 9, 8, 4])
        self.assertEqual(KIND.answer(knots, ("many",)), 4)
        self.assertIsNone(KIND.source(knots, ("many",)))
        told = [(7, 5), (9, 10), (8, 20), (4, 40), (None, None), (None, None)]
        for place, both in enumerate(told):
            with self.subTest(place=place):
                self.assertEqual(KIND.answer(knots, ("look", place)), both[0])
                self.assertEqual(KIND.source(knots, ("look", place)), both[1])
        self.assertEqual(KIND.answer(knots, ("take",)), 7)
        self.assertEqual(KIND.source(knots, ("take",)), 5)

    def test_at_times_between(self):
        told = {
            1: [], 2: [5], 3: [5, 4], 6: [5, 4, 7], 7: [4, 7], 11: [4, 7, 9], 21: [4, 7, 9, 8], 31: [7, 9, 8],
        }
        for end in told:
            with self.subTest(end=end):
                self.assertEqual(KIND.stand(ahead(self.tree, end)), told[end])
                self.assertEqual(KIND.answer(ahead(self.tree, end), ("take",)), (told[end] or [None])[0])

    def test_takes_that_find_nothing_are_gone_over(self):
        takes = [leaf(KIND, at, ("take",)) for at in (0, 2, 4)]
        put = leaf(KIND, 6, ("put", 3))
        self.assertEqual(KIND.stand(takes + [put]), [3])
        self.assertEqual(KIND.answer(takes + [put], ("take",)), 3)
        self.assertEqual(KIND.source(takes + [put], ("take",)), 6)
        early = [leaf(KIND, 1, ("put", 9))]
        self.assertEqual(KIND.stand(early + takes[1:] + [put]), [3])
        self.assertIsNone(KIND.answer(early + takes[1:] + [put], ("look", 1)))
        self.assertIsNone(KIND.source(early + takes[1:], ("take",)))


if __name__ == "__main__":
    unittest.main()
