import unittest

from pastdesk.desk import Desk
from pastdesk.errors import Bare, NoDeed, NoTime, PastError, Taken, Undone
from pastdesk.kinds import Kind
from plainly import (
    DEEDS, Dice, END, EVERY_TUPLE, KINDS, LONG, NO_TIMES, PLAIN, PlainDesk, TIMES, doable, is_asked, knots_of, mixed,
    orders, outcome, plain_knows, plain_tree,
)

BIG = 10 ** 299 + 7
NEAR_AND_FAR = [0, 1, 2, 3, 6, 7, 8, 500, END // 2 - 1, END // 2, END // 2 + 1, END - 3, END - 2, END - 1]
# For each kind some deeds of its own that can be done, one of them asked; the last can't where the first is missing.
STORY = {
    "sums": [(2, ("add", 5)), (4, ("many",)), (6, ("add", -5))],
    "pile": [(2, ("put", 5)), (4, ("look", 0)), (6, ("take",))],
    "line": [(2, ("put", 5)), (4, ("look", 0)), (6, ("take",))],
    "bag": [(2, ("put", 5)), (4, ("look", 0)), (6, ("take",))],
    "names": [(2, ("set", "a", 5)), (4, ("look", "a")), (6, ("drop", "a"))],
}


def asks_of(word):
    return [deed for deed in DEEDS[word] if is_asked(deed)]


def desk_of(word, book):
    desk = Desk(KINDS[word])
    desk.rewrite([("put", at, deed) for at, deed in book])
    return desk


def all_of(desk, word):
    """All that a desk tells: its book, its answers, its tree, and what is asked at some times."""
    told = [desk.deeds(), desk.answers(), desk.tree()]
    for at in [None] + NEAR_AND_FAR:
        told.append(desk.stand(at))
        for deed in asks_of(word):
            told.append((desk.told(deed, at), desk.source(deed, at)))
    return told


def times_about(book):
    """Now, the first and the last time, and those of the deeds with the times next to them."""
    near = {at + step for at, deed in book for step in (-1, 0, 1)} | {0, END - 1}
    return [None] + sorted(at for at in near if 0 <= at < END)


def new_knots(old, new):
    known = set(knots_of(old))
    return [knot for knot in knots_of(new) if knot not in known]


def some_change(dice, word, book):
    """A change: mostly one that may be done, now and then one to refuse."""
    turn = dice.under(24)
    taken = [at for at, deed in book]
    free = [at for at in NEAR_AND_FAR + [dice.under(END), dice.under(40)] if at not in taken]
    deed = dice.one_of(DEEDS[word])
    if turn == 0:
        return ("put", dice.one_of(NO_TIMES), dice.one_of([deed, ("add", None)]))
    if turn == 1:
        return ("out", dice.one_of(NO_TIMES))
    if turn == 2:
        wrong = [each for each in EVERY_TUPLE if not plain_knows(PLAIN[word], each)]
        return ("put", dice.one_of(taken + free), dice.one_of(wrong))
    if turn == 3 and taken:
        return ("put", dice.one_of(taken), deed)
    if turn == 4:
        return ("out", dice.one_of(free))
    # The more deeds there are the more are taken out, so that the book stays of a size.
    if turn < 8 + len(taken) // 2 and taken:
        return ("out", dice.one_of(taken))
    return ("put", dice.one_of(free), deed)


class DeskCase(unittest.TestCase):
    def check_book(self, desk, plain):
        self.assertEqual(desk.deeds(), plain.deeds())
        self.assertEqual(desk.answers(), plain.answers())
        self.assertEqual(desk.tree(), plain.tree())

    def check_questions(self, desk, plain, asks, times):
        for at in times:
            self.assertEqual(desk.stand(at), plain.stand(at), (plain.book, at))
            for deed in asks:
                told = (desk.told(deed, at), desk.source(deed, at))
                self.assertEqual(told, (plain.told(deed, at), plain.source(deed, at)), (plain.book, deed, at))


class Rewritings(DeskCase):
    def test_a_new_desk(self):
        for word, kind in KINDS.items():
            desk = Desk(kind)
            self.assertEqual((desk.deeds(), desk.answers(), desk.tree()), ([], [], None))
            self.check_questions(desk, PlainDesk(word), asks_of(word), [None, 0, END - 1])

    def test_told_out(self):
        desk = Desk(KINDS["pile"])
        self.assertEqual(desk.put(5, ("put", 40)), [])
        self.assertEqual(desk.put(9, ("take",)), [])
        self.assertEqual(desk.put(8, ("look", 0)), [])
        self.assertEqual(desk.put(7, ("put", 30)), [(8, 40, 30), (9, 40, 30)])
        self.assertEqual(desk.put(6, ("many",)), [])
        self.assertEqual(desk.put(2, ("put", 40)), [(6, 1, 2)])
        self.assertEqual(desk.rewrite([("out", 7), ("put", 7, ("take",))]), [(8, 30, 40), (9, 30, 40)])
        self.assertEqual(desk.out(8), [])
        self.assertEqual(desk.answers(), [(6, 2), (7, 40), (9, 40)])
        self.assertEqual(
            desk.deeds(), [(2, ("put", 40)), (5, ("put", 40)), (6, ("many",)), (7, ("take",)), (9, ("take",))]
        )
        self.assertEqual((desk.stand(), desk.stand(8), desk.stand(7), desk.stand(6)), ([], [40], [40], [40, 40]))
        self.assertEqual((desk.source(("take",), 8), desk.source(("take",), 6)), (2, 5))

    def test_the_whole_promise(self):
        for seed, (word, kind) in enumerate(KINDS.items()):
            dice = Dice(seed)
            desk, plain = Desk(kind), PlainDesk(word)
            seen = []
            for turn in range(700):
                changes = [some_change(dice, word, plain.book) for part in range(dice.one_of([1, 1, 1, 2, 3, 0]))]
                old = desk.tree()
                told = outcome(desk.rewrite, list(changes))
                self.assertEqual(told, outcome(plain.rewrite, changes), (plain.book, changes))
                self.assertLessEqual(len(new_knots(old, desk.tree())), 31 * len(changes))
                seen.append(told[0] if told[1] != [] else [])
                self.check_book(desk, plain)
                times = [None, dice.one_of(NEAR_AND_FAR), dice.under(END)]
                self.check_questions(desk, plain, [dice.one_of(asks_of(word))], times)
                if turn % 40 == 0:
                    self.check_questions(desk, plain, asks_of(word), times_about(plain.book))
            for each in ("told", [], NoTime, NoDeed, Taken, Bare, Undone):
                self.assertGreater(seen.count(each), 5, (word, each))

    def test_whatever_the_order(self):
        for word, kind in KINDS.items():
            row = doable(PLAIN[word], LONG[word](TIMES["both ends and all between"]))
            told = plain_tree(row, PLAIN[word].total)
            for order in orders(row):
                desk = Desk(kind)
                desk.rewrite([("put", at, deed) for at, deed in order])
                self.assertEqual(desk.tree(), told)
                self.assertEqual(desk.deeds(), row)

    def test_puts_and_outs_are_rewritings_of_one_change(self):
        for word, kind in KINDS.items():
            one, other, plain = Desk(kind), Desk(kind), PlainDesk(word)
            dice = Dice(77)
            for turn in range(150):
                change = some_change(dice, word, plain.book)
                told = outcome(plain.rewrite, [change])
                self.assertEqual(outcome(one.put if change[0] == "put" else one.out, *change[1:]), told)
                self.assertEqual(outcome(other.rewrite, [change]), told)
                self.check_book(one, plain)
                self.assertEqual(other.tree(), one.tree())

    def test_no_changes(self):
        for word in KINDS:
            for book in ([], STORY[word]):
                desk = desk_of(word, book)
                self.assertEqual(desk.rewrite([]), [])
                self.assertEqual(desk.deeds(), book)

    def test_a_deed_out_and_in_again_has_not_turned(self):
        for word in KINDS:
            desk = desk_of(word, STORY[word])
            kept = all_of(desk, word)
            changes = [("out", at) for at, deed in STORY[word]] + [("put", at, deed) for at, deed in STORY[word]]
            self.assertEqual(desk.rewrite(changes), [])
            self.assertEqual(all_of(desk, word), kept)

    def test_what_the_middle_of_a_rewriting_could_not_do(self):
        for word in KINDS:
            story = STORY[word]
            desk = Desk(KINDS[word])
            self.assertEqual(desk.rewrite([("put", at, deed) for at, deed in reversed(story)]), [])
            self.assertEqual(desk.deeds(), story)
            self.assertEqual(desk.rewrite([("out", 2), ("put", 3, story[0][1])]), [])
            self.assertEqual(desk.rewrite([("out", 3), ("out", 6)]), [(4, 5, 0 if word == "sums" else None)])
            self.assertEqual(desk.deeds(), story[1:2])

    def test_three_hundred_changes_and_deeds(self):
        for word, kind in KINDS.items():
            for name in ("three hundred", "three hundred far apart"):
                row = doable(PLAIN[word], LONG[word](TIMES[name]))
                desk, plain = Desk(kind), PlainDesk(word)
                changes = [("put", at, deed) for at, deed in mixed(row)]
                self.assertEqual(desk.rewrite(changes), plain.rewrite(changes))
                for at, deed in row[3::40]:
                    self.assertEqual(outcome(desk.out, at), outcome(plain.rewrite, [("out", at)]))
                    early = ("put", max(at - 1, 0), DEEDS[word][0])
                    self.assertEqual(outcome(desk.put, *early[1:]), outcome(plain.rewrite, [early]))
                self.check_book(desk, plain)
                self.check_questions(desk, plain, asks_of(word), [None] + [at for at, deed in row[::50]])

    def test_no_more_than_31_knots_are_new(self):
        for word, kind in KINDS.items():
            for name in ("powers of two", "the end less powers of two", "three hundred far apart"):
                desk = desk_of(word, [(at, ("many",)) for at in TIMES[name] if at % 5])
                for at in [0, END - 1, END // 2] + TIMES[name][::7]:
                    old = desk.tree()
                    if outcome(desk.put, at, DEEDS[word][0])[0] == Taken:
                        desk.out(at)
                    new = desk.tree()
                    self.assertLessEqual(len(new_knots(old, new)), 31)
                    self.assertEqual(new, plain_tree(desk.deeds(), PLAIN[word].total))

    def test_31_knots(self):
        for word, kind in KINDS.items():
            desk = desk_of(word, [(at, ("many",)) for at in TIMES["powers of two"]])
            old = desk.tree()
            desk.put(0, DEEDS[word][0])
            self.assertEqual(len(new_knots(old, desk.tree())), 31)
            new = desk.tree()
            desk.out(0)
            self.assertEqual(desk.tree(), old)
            self.assertLessEqual(len(new_knots(new, old)), 31)

    def test_great_numbers(self):
        desk = Desk(KINDS["sums"])
        desk.rewrite([("put", 1, ("add", BIG)), ("put", 3, ("add", -BIG)), ("put", 5, ("reach", BIG))])
        self.assertEqual(desk.stand(2), [BIG])
        self.assertEqual(desk.answers(), [(5, 1)])
        self.assertEqual(outcome(desk.put, 2, ("add", -1)), (Undone, 3, ("add", -BIG)))
        self.assertEqual(desk.put(0, ("add", BIG)), [(5, 1, 0)])
        for word in ("pile", "line", "bag"):
            desk = desk_of(word, [(1, ("put", BIG)), (2, ("put", -BIG))])
            self.assertEqual(desk.stand(), [-BIG, BIG] if word == "bag" else [BIG, -BIG])
            self.assertIsNone(desk.told(("look", BIG)))

    def test_several_desks_of_one_kind(self):
        for word, kind in KINDS.items():
            desks = [Desk(kind) for place in range(3)]
            plains = [PlainDesk(word) for place in range(3)]
            dice = Dice(5)
            for turn in range(90):
                place = dice.under(3)
                changes = [some_change(dice, word, plains[place].book)]
                self.assertEqual(outcome(desks[place].rewrite, changes), outcome(plains[place].rewrite, changes))
                for desk, plain in zip(desks, plains):
                    self.check_book(desk, plain)


class Refusals(DeskCase):
    def check_refused(self, desk, word, refusal, asked, *things):
        kept = all_of(desk, word)
        told = outcome(asked, *things)
        self.assertEqual(told[0], refusal, things)
        self.assertEqual(all_of(desk, word), kept)
        return told

    def test_no_time(self):
        for word in KINDS:
            desk = desk_of(word, STORY[word])
            for at in NO_TIMES:
                with self.subTest(kind=word, at=at):
                    for deed in (STORY[word][0][1], (), ("nothing",), ("put", True)):
                        self.check_refused(desk, word, NoTime, desk.put, at, deed)
                        self.check_refused(desk, word, NoTime, desk.rewrite, [("put", at, deed)])
                    self.check_refused(desk, word, NoTime, desk.out, at)
                    self.check_refused(desk, word, NoTime, desk.rewrite, [("out", at)])

    def test_no_deed(self):
        for word in KINDS:
            desk = desk_of(word, STORY[word])
            plain = PLAIN[word]
            for deed in EVERY_TUPLE:
                if not plain_knows(plain, deed):
                    # At a time that is taken and at one that is not: NoDeed comes ahead of Taken.
                    self.assertEqual(outcome(desk.put, 4, deed)[0], NoDeed, deed)
                    self.assertEqual(outcome(desk.put, 5, deed)[0], NoDeed, deed)
            self.check_refused(desk, word, NoDeed, desk.put, 4, ())
            self.check_refused(desk, word, NoDeed, desk.rewrite, [("put", 5, ("nothing",))])

    def test_taken(self):
        for word in KINDS:
            desk = desk_of(word, STORY[word])
            for at, deed in STORY[word]:
                # The same deed, and one that could not be done there.
                for other in (deed, STORY[word][2][1]):
                    self.check_refused(desk, word, Taken, desk.put, at, other)

    def test_bare(self):
        for word in KINDS:
            for book in ([], STORY[word]):
                desk = desk_of(word, book)
                for at in (0, 1, 3, 5, 7, END - 1):
                    self.check_refused(desk, word, Bare, desk.out, at)

    def test_undone(self):
        for word in KINDS:
            desk = desk_of(word, STORY[word])
            last = STORY[word][2]
            told = self.check_refused(desk, word, Undone, desk.out, 2)
            self.assertEqual(told[1:], last)
            told = self.check_refused(desk, word, Undone, desk.put, 0, last[1])
            self.assertEqual(told[1:], (0, last[1]))
            told = self.check_refused(desk, word, Undone, desk.put, 3, last[1])
            self.assertEqual(told[1:], last)
            # Several that can't be done: the first in the order of time, not in that of the changes.
            changes = [("put", 9, last[1]), ("put", 8, last[1]), ("out", 2), ("put", 3, STORY[word][1][1])]
            told = self.check_refused(desk, word, Undone, desk.rewrite, changes)
            self.assertEqual(told[1:], last)

    def test_undone_counts_at_the_end_alone(self):
        for word in KINDS:
            desk = desk_of(word, STORY[word])
            # The first change makes the last deed undone; but a later change has something to refuse.
            for change, refusal in (
                (("out", 2), Bare), (("put", 4, STORY[word][0][1]), Taken), (("put", 5, ()), NoDeed),
                (("out", -1), NoTime), (("put", END, ()), NoTime),
            ):
                self.check_refused(desk, word, refusal, desk.rewrite, [("out", 2), change])

    def test_the_first_change_that_has_something_to_refuse(self):
        for word in KINDS:
            desk = desk_of(word, STORY[word])
            first = STORY[word][0][1]
            wrong = [
                (("put", True, first), NoTime), (("put", 8, ("nothing",)), NoDeed), (("put", 6, first), Taken),
                (("out", 9), Bare), (("out", None), NoTime),
            ]
            for change, refusal in wrong:
                for later, other in wrong:
                    changes = [("put", 7, first), ("out", 4), change, ("put", 4, first), later]
                    self.check_refused(desk, word, refusal, desk.rewrite, changes)

    def test_a_change_meets_the_book_as_those_ahead_made_it(self):
        for word in KINDS:
            story = STORY[word]
            desk = desk_of(word, story)
            again = ("put", 8, story[0][1])
            self.check_refused(desk, word, Taken, desk.rewrite, [again, again])
            self.check_refused(desk, word, Bare, desk.rewrite, [("out", 4), ("out", 4)])
            self.check_refused(desk, word, Bare, desk.rewrite, [again, ("out", 8), ("out", 8)])
            self.assertEqual(desk.rewrite([again, ("out", 8), again]), [])
            self.assertEqual(desk.deeds(), story + [(8, story[0][1])])

    def test_refusals_are_errors_of_pastdesk(self):
        desk = Desk(KINDS["line"])
        with self.assertRaises(PastError):
            desk.put(-1, ("take",))
        with self.assertRaises(Undone) as caught:
            desk.put(3, ("take",))
        self.assertEqual((caught.exception.at, caught.exception.deed), (3, ("take",)))

    def test_the_plain_kind_knows_no_deed(self):
        desk = Desk(Kind())
        self.assertEqual(outcome(desk.put, 1, ("put", 1))[0], NoDeed)
        self.assertEqual(outcome(desk.told, ("many",))[0], NoDeed)
        self.assertEqual((desk.stand(), desk.deeds(), desk.tree()), ([], [], None))


class Questions(DeskCase):
    def test_about_each_time(self):
        for word in KINDS:
            for name in ("a run with a gap", "both ends and all between", "three"):
                row = doable(PLAIN[word], LONG[word](TIMES[name]))
                plain = PlainDesk(word)
                plain.book = row
                self.check_questions(desk_of(word, row), plain, asks_of(word)[::2], times_about(row))

    def test_now_is_behind_all_deeds(self):
        for word in KINDS:
            desk = desk_of(word, STORY[word][:2] + [(END - 1, STORY[word][2][1])])
            self.assertEqual(desk.stand(), desk.stand(END - 1))
            self.assertNotEqual(desk.stand(), desk.stand(END - 2))
            self.assertEqual(desk.stand(None), desk.stand())
            self.assertEqual(desk.told(("many",), None), desk.told(("many",)))

    def test_what_is_asked_is_not_written(self):
        for word in KINDS:
            desk = desk_of(word, STORY[word])
            kept = all_of(desk, word)
            for deed in asks_of(word) * 2:
                for at in (None, 0, 3, 5):
                    desk.told(deed, at)
                    desk.source(deed, at)
            self.assertEqual(all_of(desk, word), kept)

    def test_takes_and_drops(self):
        for word, deed in (("pile", ("take",)), ("line", ("take",)), ("bag", ("take",)), ("names", ("drop", "a"))):
            desk = desk_of(word, STORY[word])
            self.assertEqual([desk.told(deed, at) for at in (1, 2, 5, 6, None)], [None, 5, 5, None, None])
            self.assertEqual([desk.source(deed, at) for at in (1, 2, 5, 6, None)], [None, 2, 2, None, None])

    def test_no_time(self):
        for word in KINDS:
            desk = desk_of(word, STORY[word])
            for at in NO_TIMES:
                if at is not None:
                    for deed in (asks_of(word)[0], STORY[word][0][1], (), ("nothing",)):
                        self.assertEqual(outcome(desk.told, deed, at)[0], NoTime, at)
                        self.assertEqual(outcome(desk.source, deed, at)[0], NoTime, at)
                    self.assertEqual(outcome(desk.stand, at)[0], NoTime, at)

    def test_no_deed(self):
        for word in KINDS:
            desk = desk_of(word, STORY[word])
            for deed in EVERY_TUPLE + [STORY[word][0][1]]:
                if not plain_knows(PLAIN[word], deed) or not is_asked(deed):
                    for at in (None, 0, 2, END - 1):
                        self.assertEqual(outcome(desk.told, deed, at)[0], NoDeed, deed)
                        self.assertEqual(outcome(desk.source, deed, at)[0], NoDeed, deed)


class ListsAndArguments(unittest.TestCase):
    def test_lists_told_are_the_askers_own(self):
        for word in KINDS:
            desk = desk_of(word, [(1, STORY[word][0][1])] + STORY[word])
            kept = all_of(desk, word)
            for asked in (desk.deeds, desk.answers, desk.stand, lambda: desk.stand(2), lambda: desk.rewrite([])):
                first = asked()
                same = list(first)
                second = asked()
                self.assertIs(type(first), list)
                first.append((0, ("other",)))
                first.reverse()
                self.assertEqual(second, same)
                second.clear()
                self.assertEqual(asked(), same)
            self.assertEqual(all_of(desk, word), kept)

    def test_lists_told_stay_as_they_were_told(self):
        for word in KINDS:
            desk = desk_of(word, STORY[word][:2])
            told = [desk.deeds(), desk.answers(), desk.stand(), desk.out(4), desk.tree()]
            kept = [list(each) for each in told[:4]] + [told[4]]
            desk.put(5, STORY[word][0][1])
            desk.put(6, ("many",))
            desk.out(2)
            self.assertEqual(told, kept)

    def test_what_has_turned_is_the_askers_own(self):
        for word in KINDS:
            desk = desk_of(word, STORY[word][:2])
            before = desk.answers()[0][1]
            told = desk.out(2)
            self.assertEqual(told, [(4, before, 0 if word == "sums" else None)])
            told.clear()
            self.assertEqual(desk.put(2, STORY[word][0][1]), [(4, 0 if word == "sums" else None, before)])

    def test_a_list_of_changes_may_be_changed_later(self):
        for word in KINDS:
            desk = Desk(KINDS[word])
            changes = [("put", at, deed) for at, deed in STORY[word]]
            kept = list(changes)
            desk.rewrite(changes)
            self.assertEqual(changes, kept)
            told = all_of(desk, word)
            changes.append(("put", 9, ("many",)))
            changes.reverse()
            self.assertEqual(all_of(desk, word), told)
            changes.clear()
            self.assertEqual(all_of(desk, word), told)
            wrong = [("out", 4), ("out", 4)]
            self.assertEqual(outcome(desk.rewrite, wrong)[0], Bare)
            self.assertEqual(wrong, [("out", 4), ("out", 4)])

    def test_the_arguments_bear_their_names(self):
        desk = Desk(kind=KINDS["bag"])
        self.assertEqual(desk.put(deed=("put", 3), at=5), [])
        self.assertEqual(desk.rewrite(changes=[("put", 6, ("many",))]), [])
        self.assertEqual(desk.told(at=5, deed=("take",)), 3)
        self.assertEqual(desk.source(at=6, deed=("take",)), 5)
        self.assertEqual(desk.stand(at=4), [])
        self.assertEqual(desk.out(at=5), [(6, 1, 0)])


if __name__ == "__main__":
    unittest.main()
