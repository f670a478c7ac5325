import copy
import unittest

from fallsback.base import words
from fallsback.base.words import ACTS, KEEPINGS, MAX_LETTERS, is_below, is_integer, is_word
from tests.values import EVERY, INTEGERS, OTHERS

LETTERS = "abcdefghijklmnopqrstuvwxyz"
OTHER_SIGNS = "AZ09 \n\t_-.,~{`@[!'\"\\"


class Constants(unittest.TestCase):
    def test_constants(self):
        self.assertEqual(repr(MAX_LETTERS), "8")
        self.assertEqual(ACTS, ("output", "send", "take", "work"))
        self.assertEqual(KEEPINGS, (None, "note", "save"))

    def test_functions_stand_in_their_file(self):
        for function in (is_integer, is_word):
            self.assertEqual(function.__module__, words.__name__)


class Integers(unittest.TestCase):
    def test_sixty_digits_are_few_enough(self):
        for value in INTEGERS + (int("9" * 60), int("-" + "9" * 60), int("1" + "0" * 59), -int("1" + "0" * 59)):
            self.assertIs(is_integer(value), True, value)

    def test_sixty_one_digits_are_too_many(self):
        for value in (int("1" + "0" * 60), -int("1" + "0" * 60), int("9" * 61), -int("9" * 61), 10 ** 99, -(10 ** 99)):
            self.assertIs(is_integer(value), False, value)

    def test_true_and_false_are_none(self):
        self.assertIs(is_integer(True), False)
        self.assertIs(is_integer(False), False)

    def test_other_values_are_none(self):
        for value in OTHERS:
            self.assertIs(is_integer(value), False, value)


class Below(unittest.TestCase):
    def test_from_0_to_below_the_limit(self):
        self.assertEqual([is_below(value, 3) for value in (-1, 0, 1, 2, 3, 4)], [False, True, True, True, False, False])
        self.assertIs(is_below(0, 0), False)

    def test_other_values_are_none(self):
        for value in OTHERS:
            self.assertIs(is_below(value, 10 ** 200), False, value)


class Words(unittest.TestCase):
    def test_one_to_eight_letters(self):
        for many in range(1, 9):
            self.assertIs(is_word("m" * many), True, many)
            self.assertIs(is_word(LETTERS[:many]), True, many)

    def test_no_letters_and_too_many(self):
        for many in (0, 9, 10, 26, 4000):
            self.assertIs(is_word("m" * many), False, many)

    def test_each_letter(self):
        for letter in LETTERS:
            self.assertIs(is_word(letter), True, letter)

    def test_one_other_sign_at_any_place(self):
        for many in range(1, 9):
            for at in range(many):
                for sign in OTHER_SIGNS:
                    text = "k" * at + sign + "k" * (many - at - 1)
                    self.assertIs(is_word(text), False, text)

    def test_a_newline_behind_a_word(self):
        for text in ("a\n", "abcdefg\n", "abcdefgh\n", "\na"):
            self.assertIs(is_word(text), False, text)

    def test_other_values_are_none(self):
        for value in EVERY:
            if not isinstance(value, str):
                self.assertIs(is_word(value), False, value)
        for value in (("a",), ["a"], {"a": "a"}, ("a", "b")):
            self.assertIs(is_word(value), False, value)


class Arguments(unittest.TestCase):
    def test_judging_changes_nothing(self):
        for value in (["a", [1]], {"a": [1]}, ([1], {})):
            before = copy.deepcopy(value)
            is_integer(value)
            is_word(value)
            self.assertEqual(value, before)


if __name__ == "__main__":
    unittest.main()
