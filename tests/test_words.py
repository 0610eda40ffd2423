"""[1.1]: names."""

import unittest

from handedworld.base.words import is_name
from samples import is_word, wrong_values


class Names(unittest.TestCase):
    def test_lengths(self):
        for many in range(0, 12):
            self.assertIs(is_name("a" * many), 1 <= many <= 8)
        self.assertIs(is_name("z" * 100000), False)

    def test_letters(self):
        for number in range(0, 500):
            expected = ord("a") <= number <= ord("z")
            self.assertIs(is_name(chr(number)), expected)
            self.assertIs(is_name("ab" + chr(number)), expected)
            self.assertIs(is_name(chr(number) + "ab"), expected)

    def test_each_letter(self):
        for start in range(0, 19):
            self.assertIs(is_name("abcdefghijklmnopqrstuvwxyz"[start:start + 8]), True)

    def test_all_kinds_of_values(self):
        for value in wrong_values():
            self.assertIs(is_name(value), is_word(value))

    def test_no_strings(self):
        for value in (b"abc", ("a",), ["a"], {"a": "a"}, {"a"}, 1, None, True):
            self.assertIs(is_name(value), False)


if __name__ == "__main__":
    unittest.main()
