import unittest

from leastrow.errors import LeastError, NoChange, NoText, NoWindow, NoWish, TooGreat

REFUSALS = [NoText, NoWish, NoWindow, NoChange, TooGreat]


class ErrorClasses(unittest.TestCase):
    def test_each_stands_under_least_error_and_value_error(self):
        self.assertEqual(LeastError.__bases__, (ValueError,))
        for refusal in REFUSALS:
            with self.subTest(refusal=refusal):
                self.assertTrue(issubclass(refusal, LeastError))
                self.assertTrue(issubclass(refusal, ValueError))
                self.assertIsNot(refusal, LeastError)

    def test_none_stands_under_another_one(self):
        for one in REFUSALS:
            for other in REFUSALS:
                self.assertEqual(issubclass(one, other), one is other, (one, other))

    def test_no_text_bears_line(self):
        for line in [0, 1, 7, 6000]:
            with self.assertRaises(LeastError) as taken:
                raise NoText(line)
            self.assertIs(type(taken.exception), NoText)
            self.assertEqual(taken.exception.line, line)

    def test_no_change_bears_at(self):
        for at in [0, 1, 7, 59]:
            with self.assertRaises(LeastError) as taken:
                raise NoChange(at)
            self.assertIs(type(taken.exception), NoChange)
            self.assertEqual(taken.exception.at, at)

    def test_each_object_bears_its_own(self):
        one, other = NoText(1), NoText(2)
        self.assertEqual((one.line, other.line), (1, 2))
        one, other = NoChange(1), NoChange(2)
        self.assertEqual((one.at, other.at), (1, 2))

    def test_the_others_are_raised_with_and_without_words(self):
        for refusal in [LeastError, NoWish, NoWindow, TooGreat]:
            for error in [refusal(), refusal("some words")]:
                with self.assertRaises(ValueError) as taken:
                    raise error
                self.assertIs(type(taken.exception), refusal)
