import unittest

from pastdesk.errors import Bare, Known, NoDeed, NoName, NoText, NoTime, PastError, Taken, Undone
from pastdesk.house import House
from plainly import (
    DEEDS, Dice, END, KINDS, NAMES, PLAIN, PlainHouse, garbled, is_asked, outcome, plain_knows, plain_text,
)

BIG = 10 ** 59 + 7
NAMES_OF_DESKS = ("a", "b", "ab", "aa", "desk", "desks", "desj", "new", "now", "abcdefghijkl")
# One row of each form, and some that have all that a form may hold.
FORMS = (
    "new b bag", "put a 5 put 3", "put a 5 set ink -3", "out a 5", "change a out 5", "change a put 3 take; out 5",
    "change a put 3 look ink; put 4 many; out -7", "tell a now many", "tell a 5 look 0", "whence a now look ink",
    "whence a 7 reach 1", "stand a now", "stand a 0", "book a", "answers a",
)


def told_by(house, rows):
    return [outcome(house.say, row) for row in rows]


def house_of(*rows):
    house = House()
    for row in rows:
        house.say(row)
    return house


def is_rewriting(row):
    return row.split(" ")[0] in ("put", "out", "change")


def all_of(house, names):
    rows = [f"{word} {name}" for name in names for word in ("book", "answers")]
    rows = rows + [f"stand {name} {when}" for name in names for when in ("now", "0", "5", "1000")]
    return told_by(house, rows)


class HouseCase(unittest.TestCase):
    def check_talk(self, talk):
        """Rows and their answers, or their refusals, one after another in one house."""
        house = House()
        for row, told in talk:
            found = outcome(house.say, row)
            self.assertEqual(found[1] if found[0] == "told" else found[0], told, row)
        return house

    def check_refused(self, house, refusal, row):
        kept = all_of(house, NAMES_OF_DESKS)
        self.assertEqual(outcome(house.say, row)[0], refusal, row)
        self.assertEqual(all_of(house, NAMES_OF_DESKS), kept, row)


class ToldOut(HouseCase):
    def test_sums(self):
        self.check_talk([
            ("new till sums", "ok"), ("book till", "-"), ("answers till", "-"), ("stand till now", "0"),
            ("put till 5 add 7", "ok"), ("put till 9 many", "ok"), ("put till 8 reach 6", "ok"),
            ("put till 7 reach 99", "ok"), ("answers till", "7 none; 8 5; 9 7"), ("put till 2 add 6", "8 5 2; 9 7 13"),
            ("put till 6 add -13", "9 13 0"), ("put till 10 add -1", Undone), ("stand till 5", "13"),
            ("stand till now", "0"), ("tell till now peak", "13"), ("whence till now peak", "none"),
            ("tell till 4 reach 7", "none"), ("tell till 5 reach 7", "5"), ("whence till 5 reach 7", "5"),
            ("book till", "2 add 6; 5 add 7; 6 add -13; 7 reach 99; 8 reach 6; 9 many"),
        ])

    def test_piles(self):
        self.check_talk([
            ("new p pile", "ok"), ("put p 1 put 5", "ok"), ("put p 3 put 8", "ok"), ("put p 6 take", "ok"),
            ("stand p 5", "5 8"), ("stand p now", "5"), ("stand p 0", "-"), ("tell p now take", "5"),
            ("whence p 5 take", "3"), ("tell p 5 look 1", "5"), ("whence p 5 look 1", "1"), ("tell p 5 look 2", "none"),
            ("whence p 5 look 2", "none"), ("tell p 5 many", "2"), ("whence p 5 many", "none"), ("out p 3", "6 8 5"),
            ("stand p now", "-"), ("out p 1", Undone), ("change p out 6; out 1", "ok"), ("book p", "-"),
        ])

    def test_lines(self):
        self.check_talk([
            ("new queue line", "ok"), ("change queue put 6 take; put 1 put -5; put 3 put 8", "ok"),
            ("stand queue 5", "-5 8"), ("stand queue now", "8"), ("answers queue", "6 -5"),
            ("whence queue 5 take", "1"), ("change queue out 1; put 0 put 4", "6 -5 4"), ("tell queue now look 0", "8"),
            ("change queue out 0; put 4 put 9", "6 4 8"), ("stand queue now", "9"),
        ])

    def test_bags(self):
        self.check_talk([
            ("new b bag", "ok"), ("change b put 2 put 9; put 3 put -4; put 4 put 9", "ok"), ("stand b now", "-4 9 9"),
            ("put b 7 take", "ok"), ("put b 8 take", "ok"), ("put b 9 look 0", "ok"),
            ("answers b", "7 -4; 8 9; 9 9"), ("whence b 7 take", "2"), ("whence b 8 take", "4"),
            ("put b 5 put 0", "8 9 0"), ("out b 3", "7 -4 0; 8 0 9"), ("out b 2", "9 9 none"), ("stand b now", "-"),
        ])

    def test_names(self):
        self.check_talk([
            ("new n names", "ok"), ("put n 2 set ink 5", "ok"), ("put n 4 set a -7", "ok"), ("put n 9 drop ink", "ok"),
            ("stand n 8", "a=-7 ink=5"), ("stand n now", "a=-7"), ("stand n 1", "-"), ("answers n", "9 5"),
            ("whence n 8 look ink", "2"), ("tell n 8 drop ink", "5"), ("tell n now look ink", "none"),
            ("tell n 8 many", "2"), ("put n 3 set ink 6", "9 5 6"), ("put n 8 look b", "ok"),
            ("book n", "2 set ink 5; 3 set ink 6; 4 set a -7; 8 look b; 9 drop ink"), ("answers n", "8 none; 9 6"),
            ("put n 5 set b 0", "8 none 0"), ("stand n now", "a=-7 b=0"), ("put n 6 drop ink", Undone),
        ])

    def test_answers_are_texts(self):
        house = house_of("new a pile", "put a 1 put 5", "put a 2 take")
        for row in ("new b bag", "put a 3 many", "out a 3", "tell a 1 take", "stand a 1", "book a", "answers a"):
            self.assertIs(type(house.say(row)), str)

    def test_the_argument_bears_its_name(self):
        self.assertEqual(House().say(row="new a bag"), "ok")

    def test_numbers_with_as_many_figures_as_they_need(self):
        house = house_of("new a sums", f"put a 1 add {10 ** 60 - 1}", "put a 2 many")
        self.assertEqual(house.say(f"put a 0 add {10 ** 60 - 1}"), f"2 {10 ** 60 - 1} {2 * 10 ** 60 - 2}")
        self.assertEqual(house.say("tell a now many"), str(2 * 10 ** 60 - 2))
        self.assertEqual(house.say("stand a now"), str(2 * 10 ** 60 - 2))
        self.assertEqual(house.say("answers a"), f"2 {2 * 10 ** 60 - 2}")

    def test_the_first_and_the_last_time(self):
        self.check_talk([
            ("new a line", "ok"), ("put a 0 put 3", "ok"), (f"put a {END - 1} take", "ok"), ("stand a 0", "3"),
            (f"stand a {END - 2}", "3"), (f"stand a {END - 1}", "-"), ("whence a 0 take", "0"),
            ("book a", f"0 put 3; {END - 1} take"), (f"out a {END - 1}", "ok"), (f"out a {END}", NoTime),
        ])

    def test_a_thousand_signs_and_more(self):
        changes = "; ".join(f"put {at} put {10 ** 50 + at}" for at in range(120))
        house = house_of("new a pile", f"change a {changes}")
        self.assertEqual(house.say("book a"), "; ".join(f"{at} put {10 ** 50 + at}" for at in range(120)))
        self.assertEqual(house.say("stand a now"), " ".join(str(10 ** 50 + at) for at in range(120)))


class Refusals(HouseCase):
    def some_house(self):
        return house_of(
            "new a pile", "put a 5 put 3", "put a 7 take", "put a 8 many", "new ab names", "put ab 5 set ink 1",
            "put ab 6 look ink", "new desk sums",
        )

    def test_rows_that_are_none(self):
        house = self.some_house()
        for row in (
            "", " ", "a", "new", "put", "book", "book ", "answers", "stand", "new a", "new c", "new c heap",
            "new c Sums", "new c sums ", "new c  sums", "new  c sums", " new c sums", "new c sums sums", "New c sums",
            "NEW c sums", "new C sums", "new c1 sums", "new abcdefghijklm sums", "new 5 sums", "new c kind",
            "new c plain", "new sums", "put a", "put a 6", "put a 6 ", "put a put 3", "put a 06 put 3",
            "put a now put 3", "put a 6 put", "put a 6 put 3 ", "put a 6  put 3", "put a  6 put 3", "put a 6 put 3;",
            "put a 6 put 3; out 5", "put a 6 jump", "put a 6 put x", "put A 6 put 3", "put a 6 out 5", "put 6 put 3",
            "put a +6 put 3", "put a -0 put 3", "out a", "out a ", "out a 5 ", "out a 5 6", "out a now", "out a 05",
            "out a 5;", "out 5", "out a take", "change a", "change a ", "change a put", "change a out",
            "change a out 5;", "change a out 5; ", "change a ; out 5", "change a out 5;out 5",
            "change a out 5 ; out 6", "change a out 5;  put 5 put 4", "change a out 5, out 7", "change a out a 5",
            "change a put a 5 take", "change a out now", "change a out 5; tell 5 take",
            "change a out 5; change a out 7", "change a out 7 put 7 take", "change", "tell a", "tell a now",
            "tell a now ", "tell a many", "tell a 5", "tell a Now many", "tell a now now many", "tell a 5 many ",
            "tell a  5 many", "tell a now  many", "tell a none many", "tell now many", "tell a now Many", "whence a",
            "whence a now", "whence a take", "whence a 5 take take", "whence a 05 take", "whence a -0 take", "stand a",
            "stand a ", "stand a now ", "stand a now now", "stand a 5 6", "stand a none", "stand a many", "stand now",
            "book a ", "book a now", "book  a", " book a", "book A", "book a a", "books a", "book 5", "answers a ",
            "answers a now", "answer a", "answers A", "say a", "tree a", "rewrite a out 5", "a book",
            "put a 1" + "0" * 60 + " take", "stand a 1" + "0" * 60, "ok", "-", "none", "now",
        ):
            with self.subTest(row=row):
                self.check_refused(house, NoText, row)

    def test_rows_garbled_by_one_sign(self):
        for form in FORMS:
            for row in garbled(form, " ;-057abnowtX="):
                house, plain = House(), PlainHouse()
                for each in ("new a pile", "put a 5 put 3", "put a 8 look 0"):
                    house.say(each)
                    plain.say(each)
                self.assertEqual(outcome(house.say, row), outcome(plain.say, row), row)
                self.assertEqual(house.say("book a"), plain.say("book a"), row)

    def test_no_text_ahead_of_no_name(self):
        house = self.some_house()
        for row in (
            "put c 5 jump", "put c 5", "out c now", "change c", "change c out 5; out", "tell c now",
            "whence c now none", "stand c", "stand c none", "book c c", "answers c 5", "put c -0 take", "new a heap",
        ):
            self.check_refused(house, NoText, row)

    def test_no_name_ahead_of_what_the_desk_refuses(self):
        house = self.some_house()
        for name in ("c", "aa", "b", "desks", "desj", "now", "new", "abcdefghijkl"):
            for row in (
                f"put {name} -5 put 3", f"put {name} 5 put 3", f"put {name} 6 drop ink", f"out {name} -5",
                f"out {name} 6", f"change {name} out {END}", f"change {name} out 5; out 5", f"tell {name} -1 many",
                f"tell {name} now put 3", f"whence {name} {END} take", f"stand {name} -1", f"stand {name} now",
                f"book {name}", f"answers {name}", f"tell {name} now many",
            ):
                self.check_refused(house, NoName, row)

    def test_known(self):
        house = self.some_house()
        for row in ("new a pile", "new a sums", "new ab names", "new ab bag", "new desk line"):
            self.check_refused(house, Known, row)
        self.assertEqual(house.say("new aa pile"), "ok")
        self.check_refused(house, Known, "new aa pile")

    def test_what_the_desk_refuses(self):
        house = self.some_house()
        for row, refusal in (
            ("put a -1 put 3", NoTime), (f"put a {END} put 3", NoTime), (f"put a {BIG} drop ink", NoTime),
            ("out a -1", NoTime), (f"out a {END}", NoTime), (f"change a out 5; out -{BIG}", NoTime),
            ("put a 5 set ink 3", NoDeed), ("put a 6 look -1", NoDeed), ("put ab 7 look 0", NoDeed),
            ("put desk 1 reach 0", NoDeed), ("put desk 1 put 3", NoDeed), ("put a 6 add 3", NoDeed),
            ("put a 6 look ink", NoDeed), ("put ab 7 take", NoDeed), ("put a 5 put 3", Taken), ("put a 7 take", Taken),
            ("change a put 6 put 3; put 6 put 4", Taken), ("out a 6", Bare), ("change a out 5; out 5", Bare),
            ("out a 5", Undone), ("put a 6 take", Undone), ("change a out 5; put 9 put 3", Undone),
            ("put desk 4 add -1", Undone), ("put ab 2 drop ink", Undone), ("change a out 5; out 6", Bare),
            ("tell a -1 many", NoTime), (f"tell a {END} set ink 3", NoTime), (f"whence a {BIG} put 3", NoTime),
            ("stand a -1", NoTime), (f"stand a {END}", NoTime), ("tell a now put 3", NoDeed),
            ("tell a now look -3", NoDeed), ("tell ab now look 3", NoDeed), ("tell ab 5 set ink 1", NoDeed),
            ("whence a now put 3", NoDeed), ("whence ab now take", NoDeed), ("tell desk now reach 0", NoDeed),
            ("tell desk now add 1", NoDeed), ("tell desk now take", NoDeed), ("whence desk 5 drop ink", NoDeed),
        ):
            with self.subTest(row=row):
                self.check_refused(house, refusal, row)

    def test_undone_bears_the_first_time_and_deed(self):
        house = self.some_house()
        self.assertEqual(outcome(house.say, "out a 5"), (Undone, 7, ("take",)))
        self.assertEqual(outcome(house.say, "change a put 2 take; put 1 take"), (Undone, 1, ("take",)))
        self.assertEqual(outcome(house.say, "put ab 9 drop in"), (Undone, 9, ("drop", "in")))

    def test_refusals_are_errors_of_pastdesk(self):
        with self.assertRaises(PastError):
            House().say("nothing at all")
        with self.assertRaises(ValueError):
            House().say("book a")


class ManyDesks(HouseCase):
    def test_a_house_has_no_desk_at_first(self):
        for name in NAMES_OF_DESKS + NAMES:
            self.assertEqual(outcome(House().say, f"book {name}")[0], NoName)

    def test_names_alike_but_for_one_sign(self):
        house = House()
        names = ("desk", "desks", "des", "desj", "eesk", "dfsk", "desl")
        for place, name in enumerate(names):
            house.say(f"new {name} {list(KINDS)[place % 5]}")
            house.say(f"put {name} {place} many")
        for place, name in enumerate(names):
            self.assertEqual(house.say(f"book {name}"), f"{place} many")

    def test_two_houses_beside_one_another(self):
        one, other = House(), House()
        self.assertEqual(one.say("new a pile"), "ok")
        self.assertEqual(outcome(other.say, "book a")[0], NoName)
        self.assertEqual(other.say("new a names"), "ok")
        self.assertEqual(one.say("put a 3 put 9"), "ok")
        self.assertEqual(other.say("put a 3 set x 1"), "ok")
        self.assertEqual((one.say("book a"), other.say("book a")), ("3 put 9", "3 set x 1"))
        self.assertEqual(one.say("out a 3"), "ok")
        self.assertEqual((one.say("book a"), other.say("book a")), ("-", "3 set x 1"))

    def test_desks_of_one_kind_in_one_house(self):
        house = house_of("new a bag", "new b bag", "put a 3 put 9")
        self.assertEqual((house.say("stand a now"), house.say("stand b now")), ("9", "-"))


class LongTalks(HouseCase):
    def some_deed(self, dice, word):
        return plain_text(dice.one_of(DEEDS[word if dice.under(15) else dice.one_of(list(DEEDS))]))

    def some_time(self, dice):
        return dice.one_of([dice.under(12), dice.under(12), dice.under(12), dice.under(END), END - 1, END, -1])

    def some_change(self, dice, word):
        at = self.some_time(dice)
        return f"out {at}" if dice.under(3) == 0 else f"put {at} {self.some_deed(dice, word)}"

    def some_row(self, dice, kinds):
        name = dice.one_of(("a", "b", "aa", "ab", "ba"))
        word = kinds.get(name, "pile")
        when = dice.one_of(["now", self.some_time(dice), dice.under(12)])
        turn = dice.under(20)
        if turn == 0:
            return f"new {name} {dice.one_of(list(KINDS))}"
        if turn < 9:
            act, rest = self.some_change(dice, word).split(" ", 1)
            return f"{act} {name} {rest}"
        if turn < 12:
            return f"change {name} " + "; ".join(self.some_change(dice, word) for part in range(1 + dice.under(3)))
        if turn < 14:
            return f"tell {name} {when} {self.some_deed(dice, word)}"
        if turn < 16:
            return f"whence {name} {when} {self.some_deed(dice, word)}"
        return dice.one_of([f"stand {name} {when}", f"book {name}", f"answers {name}"])

    def test_long_rows_of_rows(self):
        seen = []
        for seed in range(8):
            dice = Dice(seed * 11 + 3)
            house, plain = House(), PlainHouse()
            kinds = {}
            for turn in range(1000):
                row = self.some_row(dice, kinds)
                if dice.under(25) == 0:
                    row = dice.one_of(garbled(row, " ;5a"))
                told = outcome(house.say, row)
                self.assertEqual(told, outcome(plain.say, row), row)
                if row.startswith("new ") and told[0] == "told":
                    kinds[row.split()[1]] = row.split()[2]
                seen.append("turned" if told[0] == "told" and is_rewriting(row) and told[1] != "ok" else told[0])
            names = ("a", "b", "aa", "ab", "ba")
            self.assertEqual(all_of(house, names), all_of(plain, names))
        for each in ("told", "turned", NoText, NoName, Known, NoTime, NoDeed, Taken, Bare, Undone):
            self.assertGreater(seen.count(each), 10, each)


class EveryAsk(HouseCase):
    def test_each_deed_asked_of_each_kind(self):
        deeds = sorted({deed for kind in DEEDS.values() for deed in kind}, key=plain_text)
        for word in KINDS:
            house, plain = House(), PlainHouse()
            for row in [f"new a {word}"] + [f"put a {at} {plain_text(DEEDS[word][at])}" for at in range(3)]:
                self.assertEqual(house.say(row), plain.say(row))
            for deed in deeds:
                for when in ("now", "0", "1", "7"):
                    for act in ("tell", "whence"):
                        row = f"{act} a {when} {plain_text(deed)}"
                        told = outcome(house.say, row)
                        self.assertEqual(told, outcome(plain.say, row), row)
                        self.assertEqual(told[0] == "told", plain_knows(PLAIN[word], deed) and is_asked(deed), row)


if __name__ == "__main__":
    unittest.main()
