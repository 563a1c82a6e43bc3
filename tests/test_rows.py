"""What is alike of piles, lines and bags, tried on each against its plain replay."""

import unittest

from pastdesk.bags import Bag
from pastdesk.books import ahead
from pastdesk.kinds import Kind
from pastdesk.knots import leaf
from pastdesk.lines import Line
from pastdesk.piles import Pile
from plainly import (
    END, KindChecks, PLAIN, TIMES, at_times, ends_about, every_parting, every_row, grown, long_numbers, mixed,
    plain_tree, some_partings,
)

BIG = 10 ** 29 + 7
ASKS = [("take",), ("many",)] + [("look", k) for k in (0, 1, 2, 3, 4, 5, 6, 7, 300, BIG)]
SPREAD = [0, 3, 4, 9, 700, END // 2, END - 2, END - 1]
NEAR = list(range(END // 2 - 4, END // 2 + 4))


def rising_deeds(place):
    # The number tells the place of the put, but for the last ones, which are alike.
    return (("put", min(place, 3) - 1), ("take",), ("look", place))


def any_deeds(place):
    return (("put", 1), ("put", -1), ("take",))


def puts_and_takes(place):
    return (("put", BIG - place * 5 % 8), ("take",))


class Alike(KindChecks):
    def test_what_it_knows(self):
        self.check_known((("put", 0), ("put", -7), ("take",), ("look", 0), ("look", 10 ** 30), ("many",)), 15)

    def test_which_are_asked(self):
        self.check_asked(
            (("take",), ("many",), ("look", 0), ("look", 1), ("look", BIG)),
            (("put", 0), ("put", 5), ("put", -5), ("put", BIG), ("put", -BIG)),
        )

    def test_it_is_a_kind(self):
        self.assertIsInstance(self.kind, Kind)

    def test_totals_of_no_deeds_and_of_each_alone(self):
        self.assertEqual(self.kind.nothing(), self.plain.total([]))
        self.assertIs(self.kind.fits(self.kind.nothing()), True)
        for deed in (("put", 0), ("put", -BIG), ("take",), ("look", 0), ("look", BIG), ("many",)):
            for at in (0, 6, END - 1):
                with self.subTest(deed=deed, at=at):
                    total = self.plain.total([(at, deed)])
                    self.assertEqual(self.kind.lone(at, deed), total)
                    self.assertEqual(leaf(self.kind, at, deed), (at, 1, total, deed))
                    self.assertIs(self.kind.fits(total), deed != ("take",))

    def test_totals_of_rows_whatever_the_brackets(self):
        for deeds in every_row(self.deeds, 6):
            self.check_totals(at_times(deeds, SPREAD))

    def test_totals_of_longer_rows(self):
        for deeds in every_row(puts_and_takes, 8)[-256:]:
            self.check_totals(at_times(deeds, SPREAD))

    def test_trees_of_this_kind(self):
        for times in TIMES.values():
            for puts in (2, 4, 6):
                row = long_numbers(times, puts)
                tree = grown(self.kind, mixed(row))
                self.assertEqual(tree, plain_tree(row, self.plain.total))

    def test_no_deeds_at_all(self):
        self.assertIsNone(self.kind.answer([], ("take",)))
        self.assertIsNone(self.kind.answer([], ("look", 0)))
        self.assertEqual(self.kind.answer([], ("many",)), 0)
        self.assertEqual(self.kind.stand([]), [])
        self.check_knots([], [], ASKS)

    def test_small_rows_parted_every_way(self):
        for deeds in every_row(self.deeds, 5):
            row = at_times(deeds, SPREAD)
            self.check_row(row, every_parting(row), ASKS)

    def test_small_rows_at_neighbouring_times(self):
        for deeds in every_row(self.deeds, 5):
            row = at_times(deeds, NEAR)
            self.check_row(row, some_partings(row), ASKS)

    def test_rows_of_eight(self):
        for deeds in every_row(puts_and_takes, 8)[-256:]:
            for times in (SPREAD, NEAR):
                row = at_times(deeds, times)
                self.check_row(row, some_partings(row), ASKS)

    def test_long_rows(self):
        for times in TIMES.values():
            for puts in (2, 4, 6):
                row = long_numbers(times, puts)
                stands = len(self.plain.stand(row))
                edges = (stands // 3, stands // 2, stands - 1, stands, stands + 1)
                asks = ASKS + [("look", k) for k in edges if k >= 0]
                self.check_row(row, some_partings(row), asks)

    def test_what_a_tree_has_ahead(self):
        for name in ("powers of two", "a run with a gap", "three hundred far apart"):
            for puts in (3, 5):
                row = long_numbers(TIMES[name], puts)
                tree = plain_tree(row, self.plain.total)
                for end in ends_about(TIMES[name] if len(row) < 50 else TIMES[name][::9]):
                    done = [entry for entry in row if entry[0] < end]
                    self.check_knots(ahead(tree, end), done, ASKS)

    def test_the_first_and_the_last_time_as_sources(self):
        knots = [leaf(self.kind, 0, ("put", 8)), leaf(self.kind, END - 1, ("put", 8))]
        sources = sorted(self.kind.source(knots, ("look", k)) for k in (0, 1))
        self.assertEqual(sources, [0, END - 1])
        self.assertEqual(self.kind.source(knots[:1], ("take",)), 0)
        self.assertEqual(self.kind.answer(knots[:1], ("take",)), 8)

    def test_a_list_told_is_the_askers_own(self):
        row = long_numbers(TIMES["a run"], 5)
        for parting in [[]] + some_partings(row):
            self.check_own_stand([plain_tree(part, self.plain.total) for part in parting])

    def test_the_arguments_bear_their_names(self):
        put = self.plain.total([(3, ("put", 1))])
        take = self.plain.total([(4, ("take",))])
        self.assertIs(self.kind.knows(deed=("put", 1)), True)
        self.assertIs(self.kind.asked(deed=("put", 1)), False)
        self.assertEqual(self.kind.lone(at=3, deed=("put", 1)), put)
        self.assertEqual(self.kind.joined(other=take, one=put), self.plain.total([(3, ("put", 1)), (4, ("take",))]))
        self.assertIs(self.kind.fits(total=take), False)
        self.assertEqual(self.kind.answer(deed=("many",), knots=[]), 0)
        self.assertIsNone(self.kind.source(deed=("many",), knots=[]))
        self.assertEqual(self.kind.stand(knots=[]), [])


class OnPiles(Alike, unittest.TestCase):
    kind = Pile()
    plain = PLAIN["pile"]
    deeds = staticmethod(rising_deeds)


class InLines(Alike, unittest.TestCase):
    kind = Line()
    plain = PLAIN["line"]
    deeds = staticmethod(rising_deeds)


class InBags(Alike, unittest.TestCase):
    kind = Bag()
    plain = PLAIN["bag"]
    deeds = staticmethod(any_deeds)


if __name__ == "__main__":
    unittest.main()
