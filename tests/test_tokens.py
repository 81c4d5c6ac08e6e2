"""Point 4: tokens and markers."""

import unittest

from errorspans import tokens
from errorspans.tokens import END, START, is_token
from helpers import ODD_VALUES, check_for_any_value


class TokensTest(unittest.TestCase):

    def test_markers(self):
        self.assertEqual((START, END), ("^", "$"))
        self.assertEqual((tokens.START, tokens.END), ("^", "$"))

    def test_lengths(self):
        for length in range(12):
            self.assertIs(is_token("a" * length), 1 <= length <= 8, length)

    def test_every_letter_from_a_to_z(self):
        for letter in "abcdefghijklmnopqrstuvwxyz":
            self.assertIs(is_token(letter), True)
        self.assertIs(is_token("num"), True)
        self.assertIs(is_token(value="zyxwvuts"), True)

    def test_no_other_character(self):
        for code in list(range(128)) + [0xaa, 0xe9, 0xdf, 0x131, 0x3b1, 0x430, 0xff41, 0x1d41a]:
            letter = chr(code)
            if not "a" <= letter <= "z":
                for word in (letter, "a" + letter, letter + "a", "a" + letter + "a"):
                    self.assertIs(is_token(word), False, repr(word))

    def test_markers_are_no_tokens(self):
        self.assertIs(is_token(START), False)
        self.assertIs(is_token(END), False)

    def test_any_value(self):
        check_for_any_value(self, is_token)
        check_for_any_value(self, is_token, [("a",), ["a"], {"a": 1}, [["num"]], ("n", "u", "m")])

    def test_odd_values_hold_each_kind(self):
        kinds = {type(value) for value in ODD_VALUES}
        self.assertEqual(kinds, {int, bool, type(None), str, tuple, list, dict})


if __name__ == "__main__":
    unittest.main()
