"""Lists: how words are written, and how a list's text is read."""

import itertools
import unittest

from wordrooms import lists
from wordrooms.errors import BadList, BadText
from wordrooms.lists import list_text, read_list, word_text

TURNED_SIGNS = " \\{}\"$[];#"
# All signs that texts have.
SIGNS = "\n" + "".join([chr(code) for code in range(32, 127) if code != 37])


class WordTextTest(unittest.TestCase):
    def check(self, table):
        for word, text in table:
            self.assertEqual(word_text(word), text, word)

    def test_plain_words(self):
        self.check([("a", "a"), ("room", "room"), ("A1-+~!", "A1-+~!"), ("-12", "-12")])

    def test_the_empty_word(self):
        self.assertEqual(word_text(""), "{}")

    def test_each_turned_sign(self):
        for sign in TURNED_SIGNS:
            self.assertEqual(word_text(sign), "\\" + sign)
            self.assertEqual(word_text("a" + sign + "b"), "a\\" + sign + "b")

    def test_no_other_sign_is_turned(self):
        for sign in SIGNS:
            if sign not in TURNED_SIGNS + "\n":
                self.assertEqual(word_text(sign), sign)

    def test_line_feeds(self):
        self.check([("\n", "\\n"), ("a\nb", "a\\nb"), ("\n\n", "{\n\n}"), ("n", "n"), ("\\n", "\\\\n")])

    def test_braces_one_longer_than_turned(self):
        self.check([("a b", "a\\ b"), ("$x", "\\$x"), ("a;", "a\\;")])

    def test_braces_as_long_as_turned(self):
        self.check([("a b c", "{a b c}"), ("\\\\", "{\\\\}"), ("a \\", "{a \\}"), ("{}", "{{}}"),
                    ("a\nb\nc", "{a\nb\nc}"), ("a \nb", "{a \nb}")])

    def test_braces_one_shorter_than_turned(self):
        self.check([("a b c d", "{a b c d}"), ("\"$[", "{\"$[}"), ("{ }", "{{ }}")])

    def test_words_whose_braces_pair(self):
        self.check([("{a}", "{{a}}"), ("{}{}", "{{}{}}"), ("{{}}", "{{{}}}"), ("a{b}c", "{a{b}c}"),
                    ("{\\}", "{{\\}}")])

    def test_words_whose_braces_don_t_pair(self):
        self.check([("{", "\\{"), ("}", "\\}"), ("}{", "\\}\\{"), ("{{}", "\\{\\{\\}"), ("{}}", "\\{\\}\\}"),
                    ("a } b c d", "a\\ \\}\\ b\\ c\\ d"), ("}  {", "\\}\\ \\ \\{"), ("{}}{", "\\{\\}\\}\\{"),
                    ("\\} \\{", "\\\\\\}\\ \\\\\\{")])

    def test_by_name(self):
        self.assertEqual(word_text(word="a b"), "a\\ b")


class ListTextTest(unittest.TestCase):
    def test_lists(self):
        self.assertEqual(list_text([]), "")
        self.assertEqual(list_text([""]), "{}")
        self.assertEqual(list_text(["a"]), "a")
        self.assertEqual(list_text(["a", "b c", "", "d e f", "{", "\n"]), "a b\\ c {} {d e f} \\{ \\n")
        self.assertEqual(list_text(words=["a", "b"]), "a b")

    def test_a_tuple(self):
        self.assertEqual(list_text(("a", "", "b")), "a {} b")

    def test_what_is_handed_in_stays(self):
        words = ["a", "b c", "", "{}"]
        list_text(words)
        self.assertEqual(words, ["a", "b c", "", "{}"])

    def test_the_text_may_be_of_any_length(self):
        self.assertEqual(list_text(["a" * 1000] * 100), " ".join(["a" * 1000] * 100))

    def test_unlike_lists_have_unlike_texts(self):
        words = ["", " ", "{}", "{", "}", "\\", "\n", "n", "a b c", "a"]
        met = {}
        for many in range(4):
            for row in itertools.product(words, repeat=many):
                self.assertNotIn(list_text(row), met)
                met[list_text(row)] = row


class ReadListTest(unittest.TestCase):
    def check(self, table):
        for text, words in table:
            self.assertEqual(read_list(text), words, repr(text))

    def check_wrong(self, table):
        for text, place in table:
            with self.assertRaises(BadList, msg=repr(text)) as caught:
                read_list(text)
            self.assertEqual(caught.exception.place, place, repr(text))

    def test_white(self):
        self.check([("", []), (" ", []), ("\n", []), (" \n \n", []), ("a", ["a"]), ("a b", ["a", "b"]),
                    ("  a\n\nb \n c\n", ["a", "b", "c"]), ("\na", ["a"]), ("a ", ["a"])])

    def test_words_in_braces(self):
        self.check([("{}", [""]), ("{} {}", ["", ""]), ("{a b}", ["a b"]), ("{ a\nb }", [" a\nb "]),
                    ("{{}}", ["{}"]), ("{a{b}c} d", ["a{b}c", "d"]), ("{a}\n{b}", ["a", "b"])])

    def test_all_signs_between_braces_are_as_they_are(self):
        self.check([("{\\n}", ["\\n"]), ("{a\\}", ["a\\"]), ("{\\{}}", ["\\{}"]),
                    ("{\"$x[;#]}", ["\"$x[;#]"]), ("{\\\\ \\ }", ["\\\\ \\ "])])

    def test_each_sign_between_braces(self):
        for sign in SIGNS.replace("{", "").replace("}", ""):
            self.check([("{" + sign + "}", [sign]), ("{a" + sign + "b} c", ["a" + sign + "b", "c"])])

    def test_each_sign_in_a_word_without_braces(self):
        for sign in SIGNS:
            if sign not in "\\ \n":
                self.check([("a" + sign + "b", ["a" + sign + "b"])])
            if sign not in "\\ \n{":
                self.check([(sign, [sign]), (sign + "b", [sign + "b"])])

    def test_each_sign_turned(self):
        for sign in SIGNS.replace("n", ""):
            self.check([("\\" + sign, [sign]), ("a\\" + sign + "b", ["a" + sign + "b"])])

    def test_each_sign_behind_a_pair(self):
        for sign in SIGNS:
            if sign in " \n":
                self.check([("{a}" + sign, ["a"])])
            else:
                self.check_wrong([("{a}" + sign, 3)])

    def test_turned_signs(self):
        self.check([("\\ ", [" "]), ("a\\ b", ["a b"]), ("\\n", ["\n"]), ("\\\\n", ["\\n"]), ("\\a", ["a"]),
                    ("\\{a", ["{a"]), ("\\}", ["}"]), ("\\{ \\}", ["{", "}"]), ("a\\\nb", ["a\nb"]),
                    ("\\\n", ["\n"]), ("\\N", ["N"]), ("\\\\", ["\\"])])

    def test_other_words_may_have_braces_within(self):
        self.check([("a{b", ["a{b"]), ("a{b c}", ["a{b", "c}"]), ("}", ["}"]), ("} {a}", ["}", "a"])])

    def test_signs_of_scripts_stand_for_themselves(self):
        self.check([("\"a b\"", ["\"a", "b\""]), ("#a;b", ["#a;b"]), ("$a [b]", ["$a", "[b]"]), ("${", ["${"])])

    def test_it_reads_what_was_written(self):
        for many in range(6):
            for signs in itertools.product("{}\\\n an", repeat=many):
                word = "".join(signs)
                self.assertEqual(read_list(word_text(word)), [word])
        for many in range(4):
            for row in itertools.product(["", "a", " ", "{}", "}", "\\", "\n", "a b c"], repeat=many):
                self.assertEqual(read_list(list_text(row)), list(row))

    def test_a_brace_that_is_not_closed(self):
        self.check_wrong([("{", 0), ("{a", 0), ("a {", 2), ("a\n  {b c", 4), ("{{}", 0), ("{a {b}", 0),
                          ("{a\\", 0), ("} {", 2)])

    def test_something_behind_a_pair(self):
        self.check_wrong([("{}a", 2), ("{a}b", 3), ("{a}{b}", 3), ("a {b}}", 5), ("{a}\\", 3), ("{\\}}", 3),
                          ("{a}\\ ", 3), ("{};", 2)])

    def test_a_turn_at_the_end(self):
        self.check_wrong([("\\", 0), ("a\\", 1), ("a b\\", 3), ("\\\\\\", 2), ("{a} \\", 4), (" \\", 1)])

    def test_of_several_wrong_places_the_one_met_first(self):
        self.check_wrong([("{a}b {", 3), ("{a}b \\", 3), ("{a {b", 0), ("{a}b c{}d {e}f", 3), ("{ {a}b", 0),
                          ("{ {a} \\", 0), ("a {b}c {d", 5), ("a {b {c}d \\", 2)])

    def test_at_most_1000_signs(self):
        self.assertEqual(read_list("a" * 1000), ["a" * 1000])
        self.assertEqual(read_list("a " * 500), ["a"] * 500)
        self.check_wrong([("a" * 999 + "\\", 999), ("{" * 1000, 0)])

    def test_1001_signs_go_ahead_of_a_wrong_list(self):
        for text in ("a" * 1001, " " * 1001, "{" * 1001, "a" * 1000 + "\\", "{}a" + "b" * 998, "a" * 5000):
            with self.assertRaises(BadText):
                read_list(text)

    def test_each_list_is_a_new_one(self):
        first = read_list("a b")
        first.append("c")
        self.assertEqual(read_list("a b"), ["a", "b"])
        self.assertIs(type(read_list(text="")), list)


class PlaceTest(unittest.TestCase):
    def test_they_are_defined_in_their_file(self):
        for told in (lists.word_text, lists.list_text, lists.read_list):
            self.assertEqual(told.__module__, "wordrooms.lists")


if __name__ == "__main__":
    unittest.main()
