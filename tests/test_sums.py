import unittest

from pastdesk.books import ahead
from pastdesk.kinds import Kind
from pastdesk.knots import leaf
from pastdesk.sums import Sums
from plainly import (
    END, KindChecks, PlainSums, TIMES, at_times, ends_about, every_parting, every_row, grown, long_sums, mixed,
    plain_tree, some_partings,
)

BIG = 10 ** 29 + 7
ASKS = [("many",), ("peak",)] + [("reach", x) for x in (1, 2, 3, 4, 5, 6, 9, BIG)]
SPREAD = [0, 3, 4, 9, 700, END // 2, END - 2, END - 1]


def small_deeds(place):
    return (("add", 2), ("add", -3), ("add", 4), ("many",))


class SumsCase(KindChecks, unittest.TestCase):
    kind = Sums()
    plain = PlainSums()


class Deeds(SumsCase):
    def test_what_it_knows(self):
        self.check_known((("add", 0), ("add", -7), ("many",), ("peak",), ("reach", 1), ("reach", 10 ** 30)), 14)

    def test_which_are_asked(self):
        self.check_asked(
            (("many",), ("peak",), ("reach", 1), ("reach", 2), ("reach", BIG)),
            (("add", 0), ("add", 5), ("add", -5), ("add", BIG), ("add", -BIG)),
        )

    def test_it_is_a_kind(self):
        self.assertIsInstance(Sums(), Kind)


class Totals(SumsCase):
    def test_no_deeds(self):
        self.assertEqual(self.kind.nothing(), (0, 0, 0))
        self.assertIs(self.kind.fits(self.kind.nothing()), True)

    def test_a_deed_alone(self):
        told = {
            ("add", 0): (0, 0, 0), ("add", 5): (5, 0, 5), ("add", -5): (-5, -5, 0),
            ("add", BIG): (BIG, 0, BIG), ("add", -BIG): (-BIG, -BIG, 0),
            ("many",): (0, 0, 0), ("peak",): (0, 0, 0), ("reach", 1): (0, 0, 0), ("reach", BIG): (0, 0, 0),
        }
        for deed in told:
            for at in (0, 6, END - 1):
                with self.subTest(deed=deed, at=at):
                    self.assertEqual(self.kind.lone(at, deed), told[deed])
                    self.assertEqual(leaf(self.kind, at, deed), (at, 1, told[deed], deed))

    def test_joined_told_out(self):
        self.assertEqual(self.kind.joined((3, 0, 5), (-4, -6, 1)), (-1, -3, 5))
        self.assertEqual(self.kind.joined((-1, -2, 4), (9, -3, 9)), (8, -4, 8))
        self.assertEqual(self.kind.joined((2, -1, 3), (1, 0, 1)), (3, -1, 3))
        self.assertEqual(self.kind.joined((BIG, 0, BIG), (BIG, -BIG, BIG)), (2 * BIG, 0, 2 * BIG))

    def test_rows_whatever_the_brackets(self):
        for deeds in every_row(small_deeds, 5):
            self.check_totals(at_times(deeds, SPREAD))

    def test_rows_with_great_numbers(self):
        for deeds in every_row(lambda place: (("add", BIG), ("add", -BIG - 1), ("peak",)), 5):
            self.check_totals(at_times(deeds, SPREAD))

    def test_whether_a_row_can_be_done(self):
        for total in ((0, 0, 0), (5, 0, 9), (0, 0, 1), (BIG, 0, BIG)):
            self.assertIs(self.kind.fits(total), True)
        for total in ((-1, -1, 0), (5, -1, 9), (0, -BIG, 0), (BIG, -2, BIG)):
            self.assertIs(self.kind.fits(total), False)

    def test_trees_of_this_kind(self):
        for times in TIMES.values():
            row = long_sums(times)
            tree = grown(self.kind, mixed(row))
            self.assertEqual(tree, plain_tree(row, self.plain.total))


class Asked(SumsCase):
    def test_no_deeds_at_all(self):
        self.assertEqual(self.kind.answer([], ("many",)), 0)
        self.assertEqual(self.kind.answer([], ("peak",)), 0)
        self.assertIsNone(self.kind.answer([], ("reach", 1)))
        self.check_knots([], [], ASKS)
        self.assertEqual(self.kind.stand([]), [0])

    def test_told_out(self):
        row = [(2, ("add", 5)), (3, ("add", -9)), (6, ("many",)), (7, ("add", 8)), (20, ("add", 2)), (21, ("add", -1))]
        for parting in every_parting(row):
            knots = [plain_tree(part, self.plain.total) for part in parting]
            self.assertEqual(self.kind.answer(knots, ("many",)), 5)
            self.assertEqual(self.kind.answer(knots, ("peak",)), 6)
            self.assertEqual(self.kind.answer(knots, ("reach", 1)), 2)
            self.assertEqual(self.kind.answer(knots, ("reach", 5)), 2)
            self.assertEqual(self.kind.answer(knots, ("reach", 6)), 20)
            self.assertIsNone(self.kind.answer(knots, ("reach", 7)))
            self.assertEqual(self.kind.source(knots, ("reach", 6)), 20)
            self.assertEqual(self.kind.source(knots, ("reach", 4)), 2)
            self.assertIsNone(self.kind.source(knots, ("reach", 7)))
            self.assertIsNone(self.kind.source(knots, ("many",)))
            self.assertIsNone(self.kind.source(knots, ("peak",)))
            self.assertEqual(self.kind.stand(knots), [5])

    def test_reached_at_the_first_time_of_all(self):
        knots = [leaf(self.kind, 0, ("add", 1))]
        self.assertEqual(self.kind.answer(knots, ("reach", 1)), 0)
        self.assertEqual(self.kind.source(knots, ("reach", 1)), 0)
        self.assertIsNone(self.kind.answer(knots, ("reach", 2)))

    def test_below_zero(self):
        knots = [leaf(self.kind, 4, ("add", -7)), leaf(self.kind, 5, ("add", 3))]
        self.check_knots(knots, [(4, ("add", -7)), (5, ("add", 3))], ASKS)
        self.assertEqual(self.kind.stand(knots), [-4])
        self.assertEqual(self.kind.answer(knots, ("peak",)), 0)

    def test_small_rows_parted_every_way(self):
        for deeds in every_row(small_deeds, 4):
            row = at_times(deeds, SPREAD)
            self.check_row(row, every_parting(row), ASKS)

    def test_small_rows_at_neighbouring_times(self):
        for deeds in every_row(small_deeds, 4):
            row = at_times(deeds, [END // 2 - 3, END // 2 - 2, END // 2 - 1, END // 2])
            self.check_row(row, some_partings(row), ASKS)

    def test_great_numbers(self):
        asks = ASKS + [("reach", BIG - 1), ("reach", BIG + 1), ("reach", 2 * BIG)]
        for deeds in every_row(lambda place: (("add", BIG), ("add", -BIG - 1)), 5):
            row = at_times(deeds, SPREAD)
            self.check_row(row, some_partings(row), asks)

    def test_long_rows(self):
        asks = [("many",), ("peak",)] + [("reach", x) for x in range(1, 90, 4)]
        for times in TIMES.values():
            row = long_sums(times)
            self.check_row(row, some_partings(row), asks)

    def test_what_a_tree_has_ahead(self):
        for name in ("powers of two", "a run with a gap", "three hundred far apart"):
            row = long_sums(TIMES[name])
            tree = plain_tree(row, self.plain.total)
            for end in ends_about(TIMES[name] if len(row) < 50 else TIMES[name][::7]):
                done = [entry for entry in row if entry[0] < end]
                self.check_knots(ahead(tree, end), done, [("many",), ("peak",), ("reach", 3), ("reach", 30)])

    def test_a_list_told_is_the_askers_own(self):
        row = long_sums(TIMES["a run"])
        for parting in [[]] + some_partings(row):
            self.check_own_stand([plain_tree(part, self.plain.total) for part in parting])

    def test_the_arguments_bear_their_names(self):
        self.assertIs(self.kind.knows(deed=("add", 1)), True)
        self.assertIs(self.kind.asked(deed=("peak",)), True)
        self.assertEqual(self.kind.lone(at=3, deed=("add", 1)), (1, 0, 1))
        self.assertEqual(self.kind.joined(other=(-1, -1, 0), one=(2, 0, 2)), (1, 0, 2))
        self.assertIs(self.kind.fits(total=(0, -1, 0)), False)
        self.assertEqual(self.kind.answer(deed=("many",), knots=[]), 0)
        self.assertIsNone(self.kind.source(deed=("many",), knots=[]))
        self.assertEqual(self.kind.stand(knots=[]), [0])


if __name__ == "__main__":
    unittest.main()
