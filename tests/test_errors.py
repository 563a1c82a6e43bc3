import unittest

from pastdesk.errors import (
    Bare,
    Known,
    NoDeed,
    NoName,
    NoText,
    NoTime,
    PastError,
    Taken,
    Undone,
)

PLAIN = (NoTime, NoDeed, Taken, Bare, NoText, NoName, Known)
REFUSALS = PLAIN + (Undone,)


def made(refusal):
    return refusal(7, ("take",)) if refusal is Undone else refusal("some words")


def takes(handler, error):
    """Whether an except clause of the class handler takes the error."""
    try:
        try:
            raise error
        except handler:
            return True
    except BaseException:
        return False


class Refusals(unittest.TestCase):
    def test_each_is_taken_by_its_own_name_and_by_those_above_it(self):
        for refusal in REFUSALS:
            for handler in (refusal, PastError, ValueError):
                with self.subTest(refusal=refusal, handler=handler):
                    self.assertTrue(takes(handler, made(refusal)))

    def test_none_is_taken_by_another(self):
        for refusal in REFUSALS:
            for other in REFUSALS:
                if other is not refusal:
                    with self.subTest(refusal=refusal, other=other):
                        self.assertFalse(takes(other, made(refusal)))

    def test_past_error_is_a_value_error_and_none_of_the_refusals(self):
        error = PastError("some words")
        self.assertTrue(takes(ValueError, error))
        for refusal in REFUSALS:
            with self.subTest(refusal=refusal):
                self.assertFalse(takes(refusal, error))

    def test_a_value_error_of_python_is_no_refusal(self):
        self.assertFalse(takes(PastError, ValueError("some words")))

    def test_the_plain_ones_are_made_with_words_or_without(self):
        for refusal in PLAIN + (PastError,):
            with self.subTest(refusal=refusal):
                self.assertTrue(takes(refusal, refusal()))
                self.assertEqual(str(refusal("some words")), "some words")


class UndoneFields(unittest.TestCase):
    def test_the_fields_are_the_time_and_the_deed(self):
        deeds = (("take",), ("add", -5), ("drop", "ink"), ("set", "ink", 10 ** 30))
        for at in (0, 1, 2 ** 30 - 1):
            for deed in deeds:
                with self.subTest(at=at, deed=deed):
                    error = Undone(at, deed)
                    self.assertEqual(error.at, at)
                    self.assertEqual(error.deed, deed)

    def test_the_fields_are_there_when_it_is_taken(self):
        for handler in (Undone, PastError, ValueError):
            with self.subTest(handler=handler):
                with self.assertRaises(handler) as caught:
                    raise Undone(3, ("add", -1))
                self.assertEqual(caught.exception.at, 3)
                self.assertEqual(caught.exception.deed, ("add", -1))

    def test_the_fields_stay_when_another_one_is_made(self):
        first = Undone(3, ("add", -1))
        second = Undone(8, ("take",))
        self.assertEqual((first.at, first.deed), (3, ("add", -1)))
        self.assertEqual((second.at, second.deed), (8, ("take",)))

    def test_the_arguments_bear_the_names_of_the_fields(self):
        error = Undone(deed=("take",), at=4)
        self.assertEqual((error.at, error.deed), (4, ("take",)))

    def test_it_is_not_made_without_a_time_and_a_deed(self):
        for given in ((), (4,)):
            with self.subTest(given=given):
                with self.assertRaises(TypeError):
                    Undone(*given)

    def test_it_can_be_shown(self):
        error = Undone(4, ("take",))
        self.assertIn("4", str(error))
        self.assertIn("take", str(error))


if __name__ == "__main__":
    unittest.main()
