"""Points [2], [6], [8] and [9]: hands, signs, names, numbers and words."""

import itertools
import unittest

from helper import Case
from tworooms import names
from tworooms.errors import BadNumber, NoHand
from tworooms.names import (check_number, hand_of, is_name, is_number, join_words, other_hand, read_number, sign_of,
                            split_words)

NO_HANDS = ["", "Dark", "DARK", "dark ", " light", "d", "l", ".", "darklight", "light\n", "a"]


class TestConstants(Case):
    def test_each_constant(self):
        told = {
            "DARK": "dark", "LIGHT": "light", "HANDS": ("dark", "light"), "PASS": "-", "FREE": ".",
            "MOST_PLACES": 20, "MOST_TIES": 60, "MOST_DEEDS": 60, "MOST_NODES": 60, "MOST_DEPTH": 12,
            "MOST_BUDGET": 400, "MOST_BOARDS": 400, "MOST_SETS": 150, "MOST_ROWS": 60,
        }
        for name, value in told.items():
            found = getattr(names, name)
            self.assertEqual((type(found), found), (type(value), value), name)


class TestHands(Case):
    def test_other_hand(self):
        self.assertEqual(other_hand("dark"), "light")
        self.assertEqual(other_hand(hand="light"), "dark")

    def test_sign_of(self):
        self.assertEqual(sign_of("dark"), "d")
        self.assertEqual(sign_of(hand="light"), "l")

    def test_no_hand(self):
        for text in NO_HANDS:
            self.refused(NoHand(text), other_hand, text)
            self.refused(NoHand(text), sign_of, text)

    def test_hand_of(self):
        self.assertEqual(hand_of("d"), "dark")
        self.assertEqual(hand_of(sign="l"), "light")
        for text in [".", "", "D", "L", "dd", "dl", "d ", "dark", "light", "-", "\n"]:
            self.assertIsNone(hand_of(text), text)


class TestIsName(Case):
    def test_names(self):
        for text in ["a", "z", "m", "ab", "a1", "z9", "a0", "abcdef", "a12345", "places", "ties", "dark", "zzzzzz"]:
            self.assertIs(is_name(text), True, text)

    def test_no_names(self):
        wrong = ["", "abcdefg", "a123456", "1", "1a", "9", "A", "Ab", "aB", "abcdeF", "-", "a-", "-a", "a-b", ".",
                 "a.", "_", "a_", " ", "a ", " a", "a b", "\n", "a\n", "\na", "a\nb", "abcde\n", "a/b", "a:b", "{",
                 "`", "a{", "a`", "a@", "a/", "a:"]
        for text in wrong:
            self.assertIs(is_name(text), False, text)

    def test_each_character_first_and_later(self):
        letters = "abcdefghijklmnopqrstuvwxyz"
        for code in [10] + [code for code in range(32, 127)]:
            character = chr(code)
            self.assertIs(is_name(character), character in letters, character)
            later = character in letters + "0123456789"
            self.assertIs(is_name("b" + character), later, character)
            self.assertIs(is_name("bcdef" + character), later, character)

    def test_the_parameter(self):
        self.assertIs(is_name(text="a"), True)


class TestNumbers(Case):
    def test_is_number(self):
        for value in [0, 1, -1, 7, 10 ** 19, -10 ** 19]:
            self.assertIs(is_number(value), True, value)
        for value in [True, False, None, "", "1", "a"]:
            self.assertIs(is_number(value=value), False, value)

    def test_check_number_within(self):
        for value in [3, 4, 5]:
            found = check_number("n", value, 3, 5)
            self.assertEqual((type(found), found), (int, value))
        self.assertEqual(check_number(what="n", value=-2, least=-2, most=-2), -2)
        self.assertEqual(check_number("n", 0, 0, 1), 0)
        self.assertEqual(check_number("n", 1, 0, 1), 1)

    def test_check_number_beside_the_bounds(self):
        for value in [2, 6, -3, 10 ** 19]:
            self.refused(BadNumber("n", value), check_number, "n", value, 3, 5)

    def test_check_number_of_no_integers(self):
        for value in [True, False, None, "", "4", "a"]:
            self.refused(BadNumber("some", value), check_number, "some", value, 0, 5)

    def test_least_above_the_most(self):
        for value in [3, 4, 5, 0, 9, True, None, "4"]:
            self.refused(BadNumber("n", value), check_number, "n", value, 5, 3)


class TestWords(Case):
    def test_split_words(self):
        told = {
            "": [[""]], " ": [["", ""]], "\n": [[""], [""]], "a": [["a"]], "a b": [["a", "b"]],
            "a  b": [["a", "", "b"]], " a": [["", "a"]], "a ": [["a", ""]], "a\n": [["a"], [""]],
            "\na": [[""], ["a"]], "a b\nc": [["a", "b"], ["c"]], "a \n b": [["a", ""], ["", "b"]],
            "a\n\nb": [["a"], [""], ["b"]], "   ": [["", "", "", ""]],
        }
        for text, lines in told.items():
            self.assertEqual(split_words(text), lines, repr(text))
        self.assertEqual(split_words(text="x"), [["x"]])

    def test_join_words(self):
        told = [
            ([], ""), ([[]], ""), ([[""]], ""), ([["", ""]], " "), ([[], []], "\n"), ([["a"], []], "a\n"),
            ([[], ["a"]], "\na"), ([["a", "b"], ["c"]], "a b\nc"), ([["a b", "c\nd"]], "a b c\nd"),
            ([[""], [""]], "\n"), ([["", "a", ""]], " a "),
        ]
        for lines, text in told:
            self.assertEqual(join_words(lines), text, lines)
        self.assertEqual(join_words(lines=[["x"]]), "x")

    def test_joining_what_was_split(self):
        for length in range(6):
            for letters in itertools.product("a \n", repeat=length):
                text = "".join(letters)
                self.assertEqual(join_words(split_words(text)), text, repr(text))

    def test_long_texts(self):
        for letter in "a \n":
            text = letter * 20000
            self.assertEqual(join_words(split_words(text)), text)

    def test_lists_stay_and_are_new(self):
        lines = [["a", "b"], []]
        join_words(lines)
        self.assertEqual(lines, [["a", "b"], []])
        told = split_words("a b")
        told[0].append("c")
        told.append([])
        self.assertEqual(split_words("a b"), [["a", "b"]])


class TestReadNumber(Case):
    def test_numbers(self):
        told = {"0": 0, "7": 7, "10": 10, "60": 60, "100": 100, "9" * 20: 10 ** 20 - 1, "1" + "0" * 19: 10 ** 19}
        for word, value in told.items():
            found = read_number(word)
            self.assertEqual((type(found), found), (int, value), word)
        self.assertEqual(read_number(word="12"), 12)

    def test_no_numbers(self):
        wrong = ["", "00", "01", "007", "-1", "-0", "+1", " 1", "1 ", "1\n", "\n", "a", "1a", "a1", "1.0", "1_0",
                 "0x1", "9" * 21, "1" + "0" * 20, "0" * 20, "1/", "1:", "1 0"]
        for word in wrong:
            self.assertIsNone(read_number(word), repr(word))

    def test_each_number_is_read_back(self):
        for value in range(1200):
            self.assertEqual(read_number(str(value)), value)


if __name__ == "__main__":
    unittest.main()
