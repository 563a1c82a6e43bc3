import re
import unittest

from pastdesk.errors import NoText
from pastdesk.words import read_deed, read_number, show_deed, show_number
from plainly import DEED, DEEDS, NAMES, NUMBER, SIGNS, garbled, outcome, plain_deed

SIXTY = "1234567890" * 6
NUMBERS = {
    "0": 0, "1": 1, "9": 9, "-1": -1, "-9": -9, "10": 10, "-10": -10, "100200": 100200, "1073741823": 2 ** 30 - 1,
    "1073741824": 2 ** 30, SIXTY: int(SIXTY), "-" + SIXTY: -int(SIXTY), "1" + "0" * 59: 10 ** 59,
    "-" + "9" * 60: 1 - 10 ** 60, "9" * 59: 10 ** 59 - 1,
}
NO_NUMBERS = (
    "", "-", "--1", "-0", "00", "01", "-01", "007", "0" * 60, "+5", "+0", "-+5", " 5", "5 ", " ", "- 5", "5 6", "5-",
    "1_000", "1,000", "1.0", "1e3", "0x1", "a", "5a", "a5", "now", "none", "ink", "1" * 61, "-" + "1" * 61,
    "1" + "0" * 60, "1" * 300,
)
WRITTEN = {
    "put 5": ("put", 5), "put -5": ("put", -5), "put 0": ("put", 0), "put " + SIXTY: ("put", int(SIXTY)),
    "take": ("take",), "look 3": ("look", 3), "look -3": ("look", -3), "look 0": ("look", 0),
    "look ink": ("look", "ink"), "look a": ("look", "a"), "look take": ("look", "take"), "many": ("many",),
    "set ink 5": ("set", "ink", 5), "set a -" + SIXTY: ("set", "a", -int(SIXTY)), "set set 0": ("set", "set", 0),
    "drop ink": ("drop", "ink"), "drop abcdefghijkl": ("drop", "abcdefghijkl"), "add 7": ("add", 7),
    "add -7": ("add", -7), "peak": ("peak",), "reach 4": ("reach", 4), "reach 0": ("reach", 0),
    "reach -4": ("reach", -4),
}
NO_DEEDS = (
    "", " ", "put", "put ", "put 5 6", "put ink", "put  5", " put 5", "put 5 ", "put 05", "put -0", "put +5",
    "put " + SIXTY + "1", "take ", " take", "take 5", "take ink", "take take", "look", "look ", "look 3 4",
    "look ink ink", "look ink 3", "look 3 ink", "look Ink", "look ink1", "look abcdefghijklm", "many 1", "many many",
    "set", "set ink", "set 5", "set 5 ink", "set ink ink", "set ink 5 6", "set 5 5", "set  ink 5", "set ink  5",
    "set Ink 5", "set ink -", "drop", "drop 5", "drop ink 5", "drop ink ink", "drop ", "add", "add ink", "add 5 5",
    "peak 5", "peak ink", "reach", "reach ink", "reach 5 5", "Put 5", "PUT 5", "TAKE", "Take", "Look 3", "Many",
    "puts 5", "pu 5", "5", "ink", "5 put", "put;5", "put 5;", "take; take", "now", "X", "put X",
    "look NAME", "look X", "set NAME X", "drop NAME", "add X", "reach X", "out 5", "new", "tell",
)


class Numbers(unittest.TestCase):
    def test_read(self):
        for text, number in NUMBERS.items():
            with self.subTest(text=text):
                told = read_number(text)
                self.assertIs(type(told), int)
                self.assertEqual(told, number)
                self.assertEqual(show_number(number), text)

    def test_refused(self):
        for text in NO_NUMBERS:
            with self.subTest(text=text):
                with self.assertRaises(NoText):
                    read_number(text)

    def test_each_number_of_figures(self):
        for many in range(1, 70):
            for ahead in ("", "-"):
                text = ahead + ("9081726354" * 7)[:many]
                told = ("told", int(text)) if many <= 60 else (NoText, None, None)
                self.assertEqual(outcome(read_number, text), told)

    def test_signs_of_each_sort(self):
        for text in ("5", "-5", "0", "10", "-12", "", "-"):
            for other in garbled(text, SIGNS):
                told = ("told", int(other)) if re.fullmatch(NUMBER, other) else (NoText, None, None)
                self.assertEqual(outcome(read_number, other), told, other)

    def test_shown_with_as_many_figures_as_it_needs(self):
        for many in (1, 2, 59, 60, 61, 100, 299, 300):
            for text in ("7" * many, "-" + "7" * many, "1" + "0" * (many - 1)):
                self.assertEqual(show_number(int(text)), text)

    def test_shown_and_read(self):
        for number in list(range(-130, 131)) + [10 ** power + step for power in range(2, 60) for step in (-1, 0, 1)]:
            self.assertEqual(read_number(show_number(number)), number)
            self.assertEqual(read_number(show_number(-number)), -number)

    def test_the_arguments_bear_their_names(self):
        self.assertEqual(read_number(text="-3"), -3)
        self.assertEqual(show_number(number=-3), "-3")


class Deeds(unittest.TestCase):
    def test_read_and_shown(self):
        for text, deed in WRITTEN.items():
            with self.subTest(text=text):
                told = read_deed(text)
                self.assertIs(type(told), tuple)
                self.assertEqual(told, deed)
                self.assertEqual([type(part) for part in told], [type(part) for part in deed])
                self.assertEqual(show_deed(deed), text)

    def test_refused(self):
        for text in NO_DEEDS:
            with self.subTest(text=text):
                with self.assertRaises(NoText):
                    read_deed(text)

    def test_every_word_with_all_that_may_follow(self):
        words = ("put", "take", "look", "many", "set", "drop", "add", "peak", "reach", "out", "Put", "", "ink", "5")
        parts = ("5", "-5", "0", "-0", "05", "ink", "Ink", "abcdefghijklm", "", SIXTY, SIXTY + "0", "-", "none")
        behind = [()] + [(one,) for one in parts] + [(one, two) for one in parts for two in parts]
        behind = behind + [("ink", "5", "5"), ("5", "5", "5"), ("ink", "ink", "5"), ("ink", "5", "")]
        found = 0
        for word in words:
            for rest in behind:
                text = " ".join((word,) + rest)
                told = ("told", plain_deed(text)) if re.fullmatch(DEED, text) else (NoText, None, None)
                self.assertEqual(outcome(read_deed, text), told, text)
                found = found + (told[0] == "told")
        # A number behind four words, a name behind two, both behind one, and three words alone.
        self.assertEqual(found, 4 * 4 + 2 * 2 + 2 * 4 + 3)

    def test_one_sign_more_less_or_other(self):
        for text in WRITTEN:
            if len(text) < 20:
                for other in garbled(text, " -;059aztX"):
                    told = ("told", plain_deed(other)) if re.fullmatch(DEED, other) else (NoText, None, None)
                    self.assertEqual(outcome(read_deed, other), told, other)

    def test_what_is_shown_is_read_to_the_same_deed(self):
        deeds = [deed for kind in DEEDS.values() for deed in kind]
        deeds = deeds + [("set", name, x) for name in NAMES for x in (0, -1, 10 ** 60 - 1, 1 - 10 ** 60)]
        deeds = deeds + [(word, x) for word in ("put", "add", "look", "reach") for x in (0, -9, 10 ** 60 - 1)]
        deeds = deeds + [(word, name) for word in ("look", "drop") for name in NAMES]
        for deed in deeds:
            text = show_deed(deed)
            self.assertIs(type(text), str)
            self.assertEqual(read_deed(text), deed)

    def test_the_arguments_bear_their_names(self):
        self.assertEqual(read_deed(text="take"), ("take",))
        self.assertEqual(show_deed(deed=("look", "a")), "look a")


if __name__ == "__main__":
    unittest.main()
