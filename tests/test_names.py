import unittest

from pastdesk.books import ahead
from pastdesk.kinds import Kind
from pastdesk.knots import leaf
from pastdesk.names import Names, is_name
from plainly import (
    END, KindChecks, NAMES, PLAIN, TIMES, at_times, ends_about, every_parting, every_row, grown, long_names, mixed,
    plain_tree, some_partings,
)

KIND = Names()
BIG = 10 ** 299 + 7
ASKS = [("many",)] + [(word, name) for word in ("drop", "look") for name in ("a", "b", "ab", "z")]
SPREAD = [0, 3, 4, 9, 700, END // 2, END - 2, END - 1]
NEAR = list(range(END // 2 - 4, END // 2 + 4))


def small_deeds(place):
    return (("set", "a", place), ("drop", "a"), ("set", "b", -place), ("drop", "b"))


def deeds_on_one(place):
    return (("set", "ab", 5), ("drop", "ab"), ("look", "ab"), ("many",))


class NamesAsWritten(unittest.TestCase):
    def test_names(self):
        letters = [chr(number) for number in range(ord("a"), ord("z") + 1)]
        for thing in letters + ["abcdefghijklm"[:size] for size in range(1, 13)] + ["zzzzzzzzzzzz", "none", "now"]:
            with self.subTest(thing=thing):
                self.assertIs(is_name(thing), True)

    def test_no_names(self):
        others = [chr(number) for number in range(32, 127) if not ord("a") <= number <= ord("z")]
        others = others + ["a" + sign + "z" for sign in others] + [sign + "a" for sign in others]
        others = others + ["a" + sign for sign in others] + ["\n", "a\n", "\ta", "", " ", "a b", "a" * 13, "a" * 300]
        for thing in others + [0, 1, 12, -1, BIG, True, False, None]:
            with self.subTest(thing=thing):
                self.assertIs(is_name(thing), False)

    def test_the_argument_bears_its_name(self):
        self.assertIs(is_name(thing="ink"), True)


class NamesCase(KindChecks, unittest.TestCase):
    kind = KIND
    plain = PLAIN["names"]


class Deeds(NamesCase):
    def test_what_it_knows(self):
        self.check_known((("set", "ink", 0), ("set", "abcdefghijkl", 1), ("drop", "a"), ("look", "z"), ("many",)), 14)

    def test_which_are_asked(self):
        self.check_asked(
            (("many",), ("look", "a"), ("look", "abcdefghijkl"), ("drop", "z"), ("drop", "drop")),
            (("set", "a", 0), ("set", "set", 5), ("set", "abcdefghijkl", -BIG)),
        )

    def test_it_is_a_kind(self):
        self.assertIsInstance(KIND, Kind)


class Totals(NamesCase):
    def test_no_deeds(self):
        self.assertEqual(KIND.nothing(), (0, ()))
        self.assertIs(KIND.fits(KIND.nothing()), True)

    def test_a_deed_alone(self):
        for at in (0, 6, END - 1):
            told = {
                ("set", "a", 5): (0, (("a", False, (5, at)),)),
                ("set", "ink", -BIG): (0, (("ink", False, (-BIG, at)),)),
                ("drop", "a"): (1, (("a", True, None),)), ("look", "a"): (0, ()), ("many",): (0, ()),
            }
            for deed in told:
                with self.subTest(deed=deed, at=at):
                    self.assertEqual(KIND.lone(at, deed), told[deed])
                    self.assertEqual(leaf(KIND, at, deed), (at, 1, told[deed], deed))
                    self.assertIs(KIND.fits(told[deed]), deed != ("drop", "a"))

    def test_joined_told_out(self):
        stands = (0, (("a", False, (5, 1)),))
        gone = (0, (("a", False, None),))
        dropped = (1, (("a", True, None),))
        anew = (1, (("a", True, (6, 10)),))
        other = (2, (("b", True, (7, 11)),))
        told = {
            (stands, dropped): (0, (("a", False, None),)), (gone, dropped): (1, (("a", False, None),)),
            (dropped, dropped): (2, (("a", True, None),)), (stands, anew): (0, (("a", False, (6, 10)),)),
            (gone, anew): (1, (("a", False, (6, 10)),)), (dropped, anew): (2, (("a", True, (6, 10)),)),
            (stands, stands): stands, (dropped, stands): (1, (("a", True, (5, 1)),)),
            (stands, other): (2, (("a", False, (5, 1)), ("b", True, (7, 11)))),
            (other, stands): (2, (("a", False, (5, 1)), ("b", True, (7, 11)))),
            (stands, KIND.nothing()): stands, (KIND.nothing(), anew): anew,
        }
        for one, two in told:
            with self.subTest(one=one, two=two):
                self.assertEqual(KIND.joined(one, two), told[(one, two)])

    def test_totals_hold_tuples_and_truths(self):
        row = [(1, ("drop", "b")), (2, ("set", "a", 1)), (3, ("set", "b", 2)), (4, ("drop", "a"))]
        for total in (KIND.nothing(), KIND.lone(1, ("set", "a", 2)), KIND.lone(1, ("drop", "a")), grown(KIND, row)[2]):
            for part in (total, total[1]) + total[1]:
                self.assertIs(type(part), tuple)
            for name, wants, last in total[1]:
                self.assertIs(type(wants), bool)
                self.assertIn(type(last), (tuple, type(None)))

    def test_rows_whatever_the_brackets(self):
        for deeds in every_row(small_deeds, 5):
            self.check_totals(at_times(deeds, SPREAD))

    def test_a_name_set_dropped_and_set_again(self):
        for deeds in every_row(deeds_on_one, 5):
            self.check_totals(at_times(deeds, NEAR))

    def test_whether_a_row_can_be_done(self):
        for total in ((0, ()), (0, (("a", False, None),)), (0, (("a", False, (1, 1)), ("b", False, (-1, 0))))):
            self.assertIs(KIND.fits(total), True)
        for total in ((1, (("a", True, None),)), (1, (("a", False, None),)), (299, (("a", False, (5, 299)),))):
            self.assertIs(KIND.fits(total), False)

    def test_trees_of_this_kind(self):
        for times in TIMES.values():
            for sets in (2, 4, 6):
                row = long_names(times, sets)
                self.assertEqual(grown(KIND, mixed(row)), plain_tree(row, self.plain.total))


class Asked(NamesCase):
    def test_no_deeds_at_all(self):
        self.assertEqual(KIND.answer([], ("many",)), 0)
        self.assertIsNone(KIND.answer([], ("look", "a")))
        self.assertIsNone(KIND.answer([], ("drop", "a")))
        self.assertEqual(KIND.stand([]), [])
        self.check_knots([], [], ASKS)

    def test_told_out(self):
        row = [
            (2, ("set", "ink", 5)), (3, ("set", "a", 0)), (6, ("look", "ink")), (7, ("drop", "ink")),
            (20, ("set", "zz", -4)), (21, ("set", "a", 9)),
        ]
        for parting in every_parting(row):
            knots = [plain_tree(part, self.plain.total) for part in parting]
            self.assertEqual(KIND.answer(knots, ("many",)), 2)
            self.assertIsNone(KIND.source(knots, ("many",)))
            for word in ("look", "drop"):
                told = {"a": (9, 21), "zz": (-4, 20), "ink": (None, None), "z": (None, None), "zzz": (None, None)}
                for name in told:
                    self.assertEqual(KIND.answer(knots, (word, name)), told[name][0])
                    self.assertEqual(KIND.source(knots, (word, name)), told[name][1])
            self.assertEqual(KIND.stand(knots), [("a", 9), ("zz", -4)])

    def test_at_times_between(self):
        tree = grown(KIND, [(0, ("set", "b", 1)), (5, ("set", "a", 0)), (6, ("drop", "b")), (END - 1, ("set", "b", 2))])
        told = {0: [], 1: [("b", 1)], 5: [("b", 1)], 6: [("a", 0), ("b", 1)], 7: [("a", 0)], END: [("a", 0), ("b", 2)]}
        for end in told:
            self.assertEqual(KIND.stand(ahead(tree, end)), told[end])
        self.assertEqual(KIND.source(ahead(tree, 6), ("look", "b")), 0)
        self.assertEqual(KIND.source(ahead(tree, END), ("look", "b")), END - 1)
        self.assertEqual(KIND.answer(ahead(tree, END), ("drop", "a")), 0)

    def test_drops_that_find_nothing_are_gone_over(self):
        drops = [leaf(KIND, at, ("drop", "a")) for at in (0, 2, 4)]
        late = leaf(KIND, 6, ("set", "a", 3))
        self.assertEqual(KIND.stand(drops + [late]), [("a", 3)])
        self.assertEqual(KIND.source(drops + [late], ("drop", "a")), 6)
        self.assertEqual(KIND.stand([leaf(KIND, 1, ("set", "a", 9))] + drops[1:]), [])
        self.assertIsNone(KIND.answer([leaf(KIND, 1, ("set", "a", 9))] + drops[1:], ("look", "a")))
        self.assertEqual(KIND.answer(drops, ("many",)), 0)

    def test_sorted_as_texts(self):
        names = ["b", "a", "aa", "ab", "zz", "z", "az", "ba", "abcdefghijkl"]
        row = [(at, ("set", name, -at)) for at, name in enumerate(names)]
        for knots in ([leaf(KIND, at, deed) for at, deed in row], [grown(KIND, row)]):
            self.assertEqual([name for name, x in KIND.stand(knots)], sorted(names))

    def test_small_rows_parted_every_way(self):
        for deeds in every_row(small_deeds, 4):
            row = at_times(deeds, SPREAD)
            self.check_row(row, every_parting(row), ASKS)

    def test_small_rows_at_neighbouring_times(self):
        for deeds in every_row(small_deeds, 5):
            row = at_times(deeds, NEAR)
            self.check_row(row, [[row[:1], row[1:3], row[3:]] if len(row) > 3 else [row] if row else []], ASKS)

    def test_long_rows(self):
        asks = ASKS + [("look", name) for name in NAMES] + [("drop", name) for name in NAMES]
        for times in TIMES.values():
            for sets in (2, 4, 6):
                row = long_names(times, sets)
                self.check_row(row, some_partings(row), asks)

    def test_three_hundred_names(self):
        letters = "abcdefghijklmnopqrst"
        names = mixed([one + two for one in letters for two in letters[:15]])
        row = [(at * 7919 % END, ("set", name, at - 7)) for at, name in enumerate(names)]
        asks = [("look", name) for name in names[::7]] + ASKS
        self.check_row(sorted(row), some_partings(sorted(row)), asks)

    def test_what_a_tree_has_ahead(self):
        asks = [("many",)] + [("look", name) for name in NAMES]
        for name in ("powers of two", "a run with a gap", "three hundred far apart"):
            row = long_names(TIMES[name])
            tree = plain_tree(row, self.plain.total)
            for end in ends_about(TIMES[name] if len(row) < 50 else TIMES[name][::9]):
                self.check_knots(ahead(tree, end), [entry for entry in row if entry[0] < end], asks)

    def test_great_numbers(self):
        knots = [leaf(KIND, 4, ("set", "a", BIG)), leaf(KIND, 5, ("set", "b", -BIG))]
        self.assertEqual(KIND.stand(knots), [("a", BIG), ("b", -BIG)])
        self.assertEqual(KIND.answer(knots, ("drop", "b")), -BIG)

    def test_a_list_told_is_the_askers_own(self):
        row = long_names(TIMES["a run"], 5)
        for parting in [[]] + some_partings(row):
            self.check_own_stand([plain_tree(part, self.plain.total) for part in parting])

    def test_the_arguments_bear_their_names(self):
        stands = (0, (("a", False, (1, 3)),))
        self.assertIs(KIND.knows(deed=("set", "a", 1)), True)
        self.assertIs(KIND.asked(deed=("look", "a")), True)
        self.assertEqual(KIND.lone(at=3, deed=("set", "a", 1)), stands)
        self.assertEqual(KIND.joined(other=(1, (("a", True, None),)), one=stands), (0, (("a", False, None),)))
        self.assertIs(KIND.fits(total=stands), True)
        self.assertEqual(KIND.answer(deed=("many",), knots=[]), 0)
        self.assertIsNone(KIND.source(deed=("look", "a"), knots=[]))
        self.assertEqual(KIND.stand(knots=[]), [])


if __name__ == "__main__":
    unittest.main()
