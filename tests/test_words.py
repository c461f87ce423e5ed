"""Names: one to eight small letters, and none of the twelve words."""

import unittest

from helper import KEPT_WORDS
from pathshape.words import is_name

LETTERS = "abcdefghijklmnopqrstuvwxyz"


class NamesTest(unittest.TestCase):
    def assert_names(self, texts):
        for text in texts:
            self.assertIs(is_name(text), True, repr(text))

    def assert_no_names(self, texts):
        for text in texts:
            self.assertIs(is_name(text), False, repr(text))

    def test_lengths(self):
        self.assert_names("abcdefgh"[:length] for length in range(1, 9))
        self.assert_no_names(["", "abcdefghi", "abcdefghij", "a" * 9, "a" * 6000])

    def test_each_letter(self):
        self.assert_names(LETTERS)
        self.assert_names(["a" + letter + "b" for letter in LETTERS])
        self.assert_names([letter * 8 for letter in LETTERS])

    def test_ordinary_names(self):
        self.assert_names(["book", "title", "down", "deep", "later", "from", "tree", "shape", "zz"])

    def test_the_twelve_words(self):
        self.assertEqual(len(set(KEPT_WORDS)), 12)
        self.assert_no_names(KEPT_WORDS)

    def test_the_twelve_words_with_a_letter_more(self):
        for word in KEPT_WORDS:
            self.assert_names([word + letter for letter in LETTERS])
            self.assert_names([letter + word for letter in LETTERS if letter + word != "many"])

    def test_the_twelve_words_without_a_letter(self):
        self.assert_names([word[:-1] for word in KEPT_WORDS])
        self.assert_names([word[1:] for word in KEPT_WORDS if word != "many"])

    def test_great_letters(self):
        self.assert_no_names(LETTERS.upper())
        self.assert_no_names(["Ab", "aB", "abC", "BOOK", "Any", "ANY", "MARK"])

    def test_other_signs(self):
        others = [chr(code) for code in range(256) if chr(code) not in LETTERS]
        for sign in others:
            self.assert_no_names([sign, "a" + sign, sign + "a", "a" + sign + "b", "abcdefg" + sign])

    def test_letters_beyond_a_to_z(self):
        self.assert_no_names(["\u00e4", "\u00df", "\u0131", "\u03b1", "\u0430", "\uff41", "a\u0301", "ab\u00e9"])

    def test_blanks_about_a_name(self):
        self.assert_no_names([" ", "\n", " a", "a ", "a b", "a\n", "\na", "a\tb"])


if __name__ == "__main__":
    unittest.main()
