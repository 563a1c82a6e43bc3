import unittest

from pastdesk.wholes import is_whole

WHOLES = (
    0, 1, -1, 2, -2, 255, 2 ** 30 - 1, 2 ** 30, 2 ** 30 + 1, -(2 ** 30), 2 ** 63, 2 ** 64,
    123456789012345678901234567890, -123456789012345678901234567890, 10 ** 299, -(10 ** 299),
)
OTHERS = (
    True, False, None, "", "0", "1", "-1", "seven", "1073741823",
    [], [0], [1, 2], [True], (), (0,), (1, 2), (None,), [[]], ((),),
)


class IsWhole(unittest.TestCase):
    def test_whole_numbers_small_and_great(self):
        for thing in WHOLES:
            with self.subTest(thing=thing):
                self.assertIs(is_whole(thing), True)

    def test_nothing_else_is_one(self):
        for thing in OTHERS:
            with self.subTest(thing=thing):
                self.assertIs(is_whole(thing), False)

    def test_a_truth_is_none_though_it_equals_a_number(self):
        self.assertIs(is_whole(True), False)
        self.assertIs(is_whole(1), True)
        self.assertIs(is_whole(1 == 1), False)
        self.assertIs(is_whole(1 == 2), False)

    def test_what_is_handed_in_is_not_changed(self):
        thing = [3, "x", [4], None]
        is_whole(thing)
        self.assertEqual(thing, [3, "x", [4], None])

    def test_it_is_told_the_same_again(self):
        for unused in range(3):
            self.assertIs(is_whole(0), True)
            self.assertIs(is_whole(False), False)
            self.assertIs(is_whole(1), True)
            self.assertIs(is_whole(True), False)

    def test_the_argument_bears_its_name(self):
        self.assertIs(is_whole(thing=5), True)


if __name__ == "__main__":
    unittest.main()
