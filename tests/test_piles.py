import unittest

from pastdesk.books import ahead
from pastdesk.knots import leaf
from pastdesk.piles import Pile
from plainly import grown

KIND = Pile()


class PileToldOut(unittest.TestCase):
    def setUp(self):
        # 5 4; the take at 6 has 7; 9 8 above; the take at 30 has 8.
        self.tree = grown(KIND, [
            (1, ("put", 5)), (2, ("put", 4)), (5, ("put", 7)), (6, ("take",)),
            (10, ("put", 9)), (12, ("look", 1)), (20, ("put", 8)), (30, ("take",)), (40, ("put", 4)),
        ])

    def test_totals(self):
        self.assertEqual(KIND.nothing(), (0, 0))
        self.assertEqual(KIND.lone(3, ("put", 9)), (0, 1))
        self.assertEqual(KIND.lone(3, ("take",)), (1, 0))
        self.assertEqual(KIND.lone(3, ("look", 2)), (0, 0))
        self.assertEqual(KIND.lone(3, ("many",)), (0, 0))
        self.assertEqual(self.tree[2], (0, 4))

    def test_joined(self):
        told = {
            ((0, 3), (2, 0)): (0, 1), ((0, 3), (2, 4)): (0, 5), ((0, 3), (3, 1)): (0, 1), ((0, 3), (5, 0)): (2, 0),
            ((0, 3), (5, 2)): (2, 2), ((4, 0), (3, 6)): (7, 6), ((4, 1), (3, 6)): (6, 6), ((4, 9), (3, 6)): (4, 12),
            ((0, 0), (0, 0)): (0, 0), ((2, 1), (0, 0)): (2, 1), ((0, 0), (2, 1)): (2, 1),
        }
        for one, other in told:
            with self.subTest(one=one, other=other):
                self.assertEqual(KIND.joined(one, other), told[(one, other)])

    def test_fits(self):
        for total in ((0, 0), (0, 1), (0, 299)):
            self.assertIs(KIND.fits(total), True)
        for total in ((1, 0), (1, 5), (300, 0)):
            self.assertIs(KIND.fits(total), False)

    def test_behind_all(self):
        knots = ahead(self.tree, 2 ** 30)
        self.assertEqual(KIND.stand(knots), [5, 4, 9, 4])
        self.assertEqual(KIND.answer(knots, ("many",)), 4)
        self.assertIsNone(KIND.source(knots, ("many",)))
        told = [(4, 40), (9, 10), (4, 2), (5, 1), (None, None), (None, None)]
        for above, both in enumerate(told):
            with self.subTest(above=above):
                self.assertEqual(KIND.answer(knots, ("look", above)), both[0])
                self.assertEqual(KIND.source(knots, ("look", above)), both[1])
        self.assertEqual(KIND.answer(knots, ("take",)), 4)
        self.assertEqual(KIND.source(knots, ("take",)), 40)

    def test_at_times_between(self):
        told = {
            1: [], 2: [5], 3: [5, 4], 6: [5, 4, 7], 7: [5, 4], 11: [5, 4, 9], 21: [5, 4, 9, 8], 31: [5, 4, 9],
        }
        for end in told:
            with self.subTest(end=end):
                self.assertEqual(KIND.stand(ahead(self.tree, end)), told[end])
                self.assertEqual(KIND.answer(ahead(self.tree, end), ("take",)), (told[end] or [None])[-1])

    def test_takes_that_find_nothing_are_gone_over(self):
        takes = [leaf(KIND, at, ("take",)) for at in (0, 2, 4)]
        put = leaf(KIND, 6, ("put", 3))
        self.assertEqual(KIND.stand(takes + [put]), [3])
        self.assertEqual(KIND.answer(takes + [put], ("take",)), 3)
        self.assertEqual(KIND.source(takes + [put], ("take",)), 6)
        early = [leaf(KIND, 1, ("put", 9))]
        self.assertEqual(KIND.stand(early + takes[1:] + [put]), [3])
        self.assertIsNone(KIND.answer(early + takes[1:] + [put], ("look", 1)))
        self.assertIsNone(KIND.source(early + takes[1:], ("take",)))


if __name__ == "__main__":
    unittest.main()
