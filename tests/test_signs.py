"""Names, and how long a text may be."""

import unittest

from wordrooms import signs


class SignsTest(unittest.TestCase):
    def test_longest(self):
        self.assertEqual(signs.LONGEST, 1000)

    def test_names(self):
        for text in ("a", "z", "m", "ab", "letters", "abcdefgh", "zzzzzzzz"):
            self.assertIs(signs.is_name(text), True, text)

    def test_none_and_nine_letters(self):
        for text in ("", "abcdefghi", "a" * 1000):
            self.assertIs(signs.is_name(text), False, text)

    def test_other_signs(self):
        for text in ("A", "aB", "Ab", "a1", "1a", "1", " ", "a b", " a", "a ", "\n", "a\n", "\na"):
            self.assertIs(signs.is_name(text), False, repr(text))

    def test_signs_beside_the_letters(self):
        for sign in ("`", "{", "@", "[", "_", "~", "-", "$", "\\"):
            self.assertIs(signs.is_name(sign), False, sign)
            self.assertIs(signs.is_name("a" + sign), False, sign)

    def test_each_small_letter_and_no_other_sign(self):
        found = [chr(code) for code in [10] + list(range(32, 127)) if signs.is_name(chr(code))]
        self.assertEqual("".join(found), "abcdefghijklmnopqrstuvwxyz")

    def test_by_name(self):
        self.assertIs(signs.is_name(text="room"), True)

    def test_it_is_defined_in_its_file(self):
        self.assertEqual(signs.is_name.__module__, "wordrooms.signs")


if __name__ == "__main__":
    unittest.main()
