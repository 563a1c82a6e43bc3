import unittest

from pastdesk.stretches import cover, halves, holds, is_time, least, within

END = 2 ** 30
GREATEST = (0, END)
BIG = 123456789012345678901234567890
SIZES = [2 ** power for power in range(31)]

# Small stretches at the begin of time, round its middle and at its end: enough
# to hold every way in which two stretches can lie, few enough to try each pair.
WINDOWS = (0, END // 2 - 8, END // 2, END - 16)


def is_stretch(thing):
    low, size = thing
    return (
        type(thing) is tuple and type(low) is int and type(size) is int
        and size in SIZES and low % size == 0 and 0 <= low <= END - size
    )


def stretches_from(begin):
    """All stretches of 1 to 8 times that lie between begin and begin + 16."""
    return [
        (low, size)
        for size in (1, 2, 4, 8)
        for low in range(begin, begin + 16, size)
        if low % size == 0
    ]


def times_of(stretch):
    return set(range(stretch[0], stretch[0] + stretch[1]))


def least_by_trying(one, other):
    for size in SIZES:
        low = one[0] - one[0] % size
        begins = low <= one[0] and low <= other[0]
        ends = one[0] + one[1] <= low + size and other[0] + other[1] <= low + size
        if begins and ends:
            return (low, size)


class IsTime(unittest.TestCase):
    def test_times(self):
        for thing in (0, 1, 2, 1000, 2 ** 29, END - 2, END - 1):
            with self.subTest(thing=thing):
                self.assertIs(is_time(thing), True)

    def test_whole_numbers_that_are_no_times(self):
        for thing in (-1, -2, -END, END, END + 1, 2 ** 31, 2 ** 64, BIG, -BIG):
            with self.subTest(thing=thing):
                self.assertIs(is_time(thing), False)

    def test_things_that_are_no_whole_numbers(self):
        for thing in (True, False, None, "", "0", "5", "now", [], [0], [5], (), (0,), (0, 1)):
            with self.subTest(thing=thing):
                self.assertIs(is_time(thing), False)

    def test_what_is_handed_in_is_not_changed(self):
        thing = [5, [6]]
        is_time(thing)
        self.assertEqual(thing, [5, [6]])

    def test_the_argument_bears_its_name(self):
        self.assertIs(is_time(thing=END), False)


class Holds(unittest.TestCase):
    def check_edges(self, stretch):
        low, size = stretch
        with self.subTest(stretch=stretch):
            self.assertIs(holds(stretch, low), True)
            self.assertIs(holds(stretch, low + size // 2), True)
            self.assertIs(holds(stretch, low + size - 1), True)
            self.assertIs(holds(stretch, low - 1), False)
            self.assertIs(holds(stretch, low + size), False)
            for number in (-1, -END, -BIG, END, BIG):
                self.assertIs(holds(stretch, number), False)

    def test_edges_at_every_size(self):
        for size in SIZES:
            for low in (0, (END - size) // 2 // size * size, END - size):
                self.check_edges((low, size))

    def test_far_off_times(self):
        self.assertIs(holds((0, 1), END - 1), False)
        self.assertIs(holds((END - 1, 1), 0), False)
        self.assertIs(holds((64, 64), 1000000), False)
        self.assertIs(holds((2 ** 29, 2 ** 29), 64), False)

    def test_each_number_near_small_stretches(self):
        for begin in WINDOWS:
            for stretch in stretches_from(begin):
                for number in range(begin - 3, begin + 19):
                    with self.subTest(stretch=stretch, number=number):
                        self.assertIs(holds(stretch, number), number in times_of(stretch))

    def test_the_arguments_bear_their_names(self):
        self.assertIs(holds(number=5, stretch=(4, 4)), True)


class Within(unittest.TestCase):
    def test_a_stretch_lies_within_itself(self):
        for size in SIZES:
            with self.subTest(size=size):
                self.assertIs(within((END - size, size), (END - size, size)), True)

    def test_halves_and_the_stretch_of_twice_the_size(self):
        for size in SIZES[1:]:
            half = size // 2
            whole = (END - size, size)
            for part in ((END - size, half), (END - half, half)):
                with self.subTest(whole=whole, part=part):
                    self.assertIs(within(part, whole), True)
                    self.assertIs(within(whole, part), False)

    def test_twins_lie_in_one_another_neither_way(self):
        for size in SIZES[:-1]:
            with self.subTest(size=size):
                self.assertIs(within((0, size), (size, size)), False)
                self.assertIs(within((size, size), (0, size)), False)

    def test_every_time_lies_in_the_greatest(self):
        for at in (0, 1, 77, END // 2, END - 1):
            with self.subTest(at=at):
                self.assertIs(within((at, 1), GREATEST), True)
                self.assertIs(within(GREATEST, (at, 1)), False)

    def test_each_pair_of_small_stretches(self):
        for begin in WINDOWS:
            for one in stretches_from(begin):
                for other in stretches_from(begin):
                    with self.subTest(one=one, other=other):
                        self.assertIs(within(one, other), times_of(one) <= times_of(other))

    def test_the_arguments_bear_their_names(self):
        self.assertIs(within(other=(0, 8), one=(4, 2)), True)
        self.assertIs(within(other=(4, 2), one=(0, 8)), False)


class Halves(unittest.TestCase):
    def test_the_halves_told_out(self):
        told = {
            (0, 2): ((0, 1), (1, 1)),
            (6, 2): ((6, 1), (7, 1)),
            (END - 2, 2): ((END - 2, 1), (END - 1, 1)),
            (8, 4): ((8, 2), (10, 2)),
            (3 * 1024, 1024): ((3072, 512), (3584, 512)),
            (2 ** 29, 2 ** 29): ((2 ** 29, 2 ** 28), (2 ** 29 + 2 ** 28, 2 ** 28)),
            GREATEST: ((0, 2 ** 29), (2 ** 29, 2 ** 29)),
        }
        for stretch in told:
            with self.subTest(stretch=stretch):
                self.assertEqual(halves(stretch), told[stretch])

    def test_the_halves_are_stretches_that_part_the_whole(self):
        for size in SIZES[1:]:
            for low in (0, END - size):
                with self.subTest(low=low, size=size):
                    both = halves((low, size))
                    self.assertIs(type(both), tuple)
                    early, late = both
                    self.assertTrue(is_stretch(early))
                    self.assertTrue(is_stretch(late))
                    self.assertEqual(early[0], low)
                    self.assertEqual(early[0] + early[1], late[0])
                    self.assertEqual(late[0] + late[1], low + size)

    def test_the_argument_bears_its_name(self):
        self.assertEqual(halves(stretch=(0, 4)), ((0, 2), (2, 2)))


class Least(unittest.TestCase):
    def check(self, one, other, told):
        with self.subTest(one=one, other=other):
            self.assertEqual(least(one, other), told)
            self.assertEqual(least(other, one), told)
            self.assertTrue(is_stretch(least(one, other)))

    def test_the_same_stretch_twice(self):
        for size in SIZES:
            self.check((0, size), (0, size), (0, size))
            self.check((END - size, size), (END - size, size), (END - size, size))

    def test_one_within_the_other(self):
        self.check((4, 1), (4, 4), (4, 4))
        self.check((7, 1), (4, 4), (4, 4))
        self.check((6, 2), (0, 16), (0, 16))
        self.check((END - 1, 1), (2 ** 29, 2 ** 29), (2 ** 29, 2 ** 29))
        self.check((0, 1), GREATEST, GREATEST)
        self.check((END - 1, 1), GREATEST, GREATEST)

    def test_two_halves_of_one_stretch(self):
        for size in SIZES[1:]:
            half = size // 2
            low = END - size
            self.check((low, half), (low + half, half), (low, size))

    def test_side_by_side_but_no_halves_of_one(self):
        self.check((1, 1), (2, 1), (0, 4))
        self.check((3, 1), (4, 1), (0, 8))
        self.check((2, 2), (4, 2), (0, 8))
        self.check((2, 2), (4, 1), (0, 8))
        self.check((5, 1), (6, 2), (4, 4))
        self.check((96, 32), (128, 32), (0, 256))
        self.check((END // 2 - 1, 1), (END // 2, 1), GREATEST)
        self.check((2 ** 28, 2 ** 28), (2 ** 29, 2 ** 28), GREATEST)

    def test_far_apart(self):
        self.check((0, 1), (END - 1, 1), GREATEST)
        self.check((0, 1), (9, 1), (0, 16))
        self.check((1024, 8), (1536, 1), (1024, 1024))
        self.check((1023, 1), (1024, 8), (0, 2048))

    def test_each_pair_of_small_stretches(self):
        for begin in WINDOWS:
            for one in stretches_from(begin):
                for other in stretches_from(begin):
                    self.check(one, other, least_by_trying(one, other))

    def test_each_pair_of_stretches_from_two_windows(self):
        for one in stretches_from(WINDOWS[0]):
            for other in stretches_from(WINDOWS[1]):
                self.check(one, other, least_by_trying(one, other))

    def test_the_arguments_bear_their_names(self):
        self.assertEqual(least(one=(0, 1), other=(1, 1)), (0, 2))


class Cover(unittest.TestCase):
    def check_goes_end_to_end(self, end):
        with self.subTest(end=end):
            told = cover(end)
            self.assertIs(type(told), list)
            reached = 0
            for stretch in told:
                self.assertTrue(is_stretch(stretch))
                self.assertEqual(stretch[0], reached)
                reached = reached + stretch[1]
            self.assertEqual(reached, end)
            sizes = [size for low, size in told]
            self.assertEqual(sizes, sorted(set(sizes), reverse=True))

    def test_the_cover_of_nothing(self):
        self.assertEqual(cover(0), [])

    def test_covers_told_out(self):
        told = {
            1: [(0, 1)],
            2: [(0, 2)],
            3: [(0, 2), (2, 1)],
            5: [(0, 4), (4, 1)],
            6: [(0, 4), (4, 2)],
            7: [(0, 4), (4, 2), (6, 1)],
            13: [(0, 8), (8, 4), (12, 1)],
            1000: [(0, 512), (512, 256), (768, 128), (896, 64), (960, 32), (992, 8)],
            2 ** 29 + 1: [(0, 2 ** 29), (2 ** 29, 1)],
            END: [(0, END)],
        }
        for end in told:
            with self.subTest(end=end):
                self.assertEqual(cover(end), told[end])

    def test_powers_of_two(self):
        for size in SIZES:
            with self.subTest(size=size):
                self.assertEqual(cover(size), [(0, size)])

    def test_the_numbers_ahead_of_powers_of_two(self):
        for power in range(31):
            end = 2 ** power - 1
            self.check_goes_end_to_end(end)
            with self.subTest(end=end):
                self.assertEqual([size for low, size in cover(end)], SIZES[:power][::-1])

    def test_numbers_between(self):
        for end in list(range(300)) + [2 ** 20 + 12345, 715827882, 357913941, END - 2]:
            self.check_goes_end_to_end(end)

    def test_a_list_told_is_the_askers_own(self):
        for end in (0, 1, 13, END - 1, END):
            with self.subTest(end=end):
                first = cover(end)
                kept = list(first)
                second = cover(end)
                self.assertIsNot(first, second)
                first.append((5, 1))
                first.reverse()
                self.assertEqual(second, kept)
                self.assertEqual(cover(end), kept)
                first.clear()
                self.assertEqual(cover(end), kept)

    def test_a_list_told_stays_as_it_was_told(self):
        first = cover(13)
        for end in (0, 12, 13, 14, END):
            cover(end).clear()
        self.assertEqual(first, [(0, 8), (8, 4), (12, 1)])

    def test_the_argument_bears_its_name(self):
        self.assertEqual(cover(end=3), [(0, 2), (2, 1)])


if __name__ == "__main__":
    unittest.main()
