"""Scripts: how commands, words and pieces are read."""

import itertools
import unittest

from wordrooms import scripts
from wordrooms.errors import BadScript, BadText
from wordrooms.lists import list_text
from wordrooms.scripts import parsed
from wordrooms.signs import is_name


# All signs that texts have.
SIGNS = "\n" + "".join([chr(code) for code in range(32, 127) if code != 37])


def text(signs):
    """A word of this text alone."""
    return (("text", signs),) if signs else ()


def command(*words):
    """A command whose words are these texts."""
    return tuple([text(word) for word in words])


def run(*commands):
    return ("run", commands)


def within(many):
    """A script of so many runs within one another."""
    return "[" * many + "a" + "]" * many


class CheckedTest(unittest.TestCase):
    def check(self, table):
        for source, commands in table:
            self.assertEqual(parsed(source), commands, repr(source))

    def check_word(self, table):
        """Each source is a command `a` with one word more, of these pieces."""
        for source, pieces in table:
            self.assertEqual(parsed("a " + source), [(text("a"), tuple(pieces))], repr(source))

    def check_wrong(self, table):
        for source, place in table:
            with self.assertRaises(BadScript, msg=repr(source)) as caught:
                parsed(source)
            self.assertEqual(caught.exception.place, place, repr(source))


class CommandsTest(CheckedTest):
    def test_no_command(self):
        for source in ("", " ", "\n", ";", " ; \n;;", "#", "# a; b", "  # a", ";#a", "#a\n#b\n"):
            self.assertEqual(parsed(source), [], repr(source))

    def test_commands(self):
        self.check([
            ("a", [command("a")]),
            ("a b", [command("a", "b")]),
            ("  a   b  ", [command("a", "b")]),
            ("a b;c", [command("a", "b"), command("c")]),
            ("a\nb", [command("a"), command("b")]),
            (";\na ;\n; b\n", [command("a"), command("b")]),
        ])

    def test_remarks(self):
        self.check([
            ("# a; b\nc", [command("c")]),
            ("a;# b\nc", [command("a"), command("c")]),
            ("a\n  #b ; c \\ \" { [ $\nd", [command("a"), command("d")]),
            ("#\\", []),
            ("#a\\\nb", [command("b")]),
            ("##\n#\n#", []),
        ])

    def test_a_number_sign_elsewhere_is_no_remark(self):
        self.check([
            ("a #b", [command("a", "#b")]),
            ("a#b;c#", [command("a#b"), command("c#")]),
            ("\\#a", [command("#a")]),
            ("\"#a\"", [command("#a")]),
            ("{#a}", [command("#a")]),
        ])


class WordsTest(CheckedTest):
    def test_words_in_braces(self):
        self.check([
            ("{}", [command("")]),
            ("{a b}", [command("a b")]),
            ("a {b {c} d} e", [command("a", "b {c} d", "e")]),
            ("{a;b\n#c}", [command("a;b\n#c")]),
            ("{$a [b] \\n \"}", [command("$a [b] \\n \"")]),
            ("{\\}", [command("\\")]),
            ("{a};{b}\n{c}", [command("a"), command("b"), command("c")]),
            ("{a}  {b}", [command("a", "b")]),
        ])

    def test_words_in_quotes(self):
        self.check([
            ("\"\"", [command("")]),
            ("\"a b\"", [command("a b")]),
            ("\"a;b\n#c\"", [command("a;b\n#c")]),
            ("\"{ } ]\"", [command("{ } ]")]),
            ("\"a\\\"b\"", [command("a\"b")]),
            ("\"\\n\\a\\\\\"", [command("\na\\")]),
            ("\"a\";\"b\"\n\"c\" \"d\"", [command("a"), command("b"), command("c", "d")]),
        ])

    def test_bare_words(self):
        self.check([
            ("a{b", [command("a{b")]),
            ("a} }b", [command("a}", "}b")]),
            ("a\"b\"", [command("a\"b\"")]),
            ("a{b c}", [command("a{b", "c}")]),
            ("-1 +~!", [command("-1", "+~!")]),
        ])

    def test_a_closing_bracket_outside_of_a_put_in(self):
        self.check([
            ("]", [command("]")]),
            ("a]b ]", [command("a]b", "]")]),
            ("a;]", [command("a"), command("]")]),
            ("\"]\"", [command("]")]),
        ])
        self.check_word([("[b]]", [run(command("b")), ("text", "]")])])

    def test_turned_signs(self):
        self.check([
            ("a\\ b", [command("a b")]),
            ("\\{a", [command("{a")]),
            ("\\\"a", [command("\"a")]),
            ("\\$a\\[b\\]", [command("$a[b]")]),
            ("a\\;b", [command("a;b")]),
            ("a\\nb", [command("a\nb")]),
            ("a\\\nb", [command("a\nb")]),
            ("\\\\", [command("\\")]),
            ("\\ ", [command(" ")]),
        ])

    def test_words_without_any_piece(self):
        self.check([
            ("{} \"\" {}", [((), (), ())]),
            ("[{}]", [((run(((),)),),)]),
        ])


class SignsTest(CheckedTest):
    def test_each_sign_in_a_word_in_braces(self):
        for sign in SIGNS.replace("{", "").replace("}", ""):
            self.check([("{" + sign + "}", [command(sign)]), ("{a" + sign + "b}", [command("a" + sign + "b")])])

    def test_each_sign_in_a_word_in_quotes(self):
        for sign in SIGNS:
            if sign not in "\\\"$[":
                self.check([("\"a" + sign + "b\"", [command("a" + sign + "b")])])

    def test_each_sign_in_a_bare_word(self):
        for sign in SIGNS:
            if sign not in "\\$[; \n":
                self.check([("a" + sign + "b", [command("a" + sign + "b")])])
            if sign not in "\\$[; \n{\"#":
                self.check([(sign + "b", [command(sign + "b")]), (sign, [command(sign)])])

    def test_each_sign_turned(self):
        for sign in SIGNS.replace("n", ""):
            self.check([("\\" + sign, [command(sign)]), ("\"a\\" + sign + "\"", [command("a" + sign)])])

    def test_each_sign_behind_a_closed_word(self):
        for sign in SIGNS:
            if sign in " ;\n":
                self.check([("{a}" + sign, [command("a")]), ("\"a\"" + sign, [command("a")])])
            else:
                self.check_wrong([("{a}" + sign, 3), ("\"a\"" + sign, 3)])


class PutInsTest(CheckedTest):
    def test_names(self):
        self.check_word([
            ("$b", [("name", "b")]),
            ("$abcdefgh", [("name", "abcdefgh")]),
            ("$bC", [("name", "b"), ("text", "C")]),
            ("$b1$c", [("name", "b"), ("text", "1"), ("name", "c")]),
            ("$b$c", [("name", "b"), ("name", "c")]),
            ("x$b{c}", [("text", "x"), ("name", "b"), ("text", "{c}")]),
            ("$b\\c", [("name", "b"), ("text", "c")]),
            ("\"x $b y\"", [("text", "x "), ("name", "b"), ("text", " y")]),
            ("\"$b\"", [("name", "b")]),
        ])

    def test_names_in_braces(self):
        self.check_word([
            ("${b}", [("name", "b")]),
            ("${abcdefgh}i", [("name", "abcdefgh"), ("text", "i")]),
            ("x${b}c", [("text", "x"), ("name", "b"), ("text", "c")]),
            ("${b}}", [("name", "b"), ("text", "}")]),
            ("\"${b}c\"", [("name", "b"), ("text", "c")]),
        ])

    def test_runs(self):
        self.check_word([
            ("[b]", [run(command("b"))]),
            ("[]", [run()]),
            ("[ ; \n ]", [run()]),
            ("[b c; d\ne]", [run(command("b", "c"), command("d"), command("e"))]),
            ("[ b ]", [run(command("b"))]),
            ("x[b]y", [("text", "x"), run(command("b")), ("text", "y")]),
            ("[b][c]", [run(command("b")), run(command("c"))]),
            ("[b]{c}\"", [run(command("b")), ("text", "{c}\"")]),
            ("\"x [b \"c d\"] y\"", [("text", "x "), run(command("b", "c d")), ("text", " y")]),
            ("[b {c]} d]", [run(command("b", "c]", "d"))]),
            ("[b \"c]\" d]", [run(command("b", "c]", "d"))]),
            ("[b\\]c]", [run(command("b]c"))]),
            ("[{b}]", [run(command("b"))]),
            ("[\"b\"]", [run(command("b"))]),
            ("[b;]", [run(command("b"))]),
        ])

    def test_put_ins_within_put_ins(self):
        inner = run((text("c"), (("name", "d"),)))
        self.check_word([
            ("[b [c $d]]", [run((text("b"), (inner,)))]),
            ("\"[b \"[c $d]\"]\"", [run((text("b"), (inner,)))]),
            ("[b x[c $d]y]", [run((text("b"), (("text", "x"), inner, ("text", "y"))))]),
            ("[[c $d]]", [run(((inner,),))]),
        ])

    def test_remarks_in_runs(self):
        self.check_word([
            ("[# c ] d\nb]", [run(command("b"))]),
            ("[b;#]\n]", [run(command("b"))]),
            ("[b #]", [run(command("b", "#"))]),
        ])
        self.check_wrong([("a [# c]", 2), ("a [b;#]", 2)])

    def test_no_two_texts_side_by_side(self):
        self.check_word([
            ("x\\ y]z{}\\\\", [("text", "x y]z{}\\")]),
            ("\"x\\\"y\\n z\"", [("text", "x\"y\n z")]),
            ("x$b\\ y", [("text", "x"), ("name", "b"), ("text", " y")]),
        ])


class KindsTest(CheckedTest):
    def check_commands(self, commands):
        for words in commands:
            self.assertIs(type(words), tuple)
            self.assertTrue(words)
            for pieces in words:
                self.check_pieces(pieces)

    def check_pieces(self, pieces):
        self.assertIs(type(pieces), tuple)
        last = None
        for piece in pieces:
            self.assertIs(type(piece), tuple)
            kind, worth = piece
            self.assertIn(kind, ("text", "name", "run"))
            self.assertFalse(kind == "text" and last == "text")
            last = kind
            if kind == "run":
                self.assertIs(type(worth), tuple)
                self.check_commands(worth)
            else:
                self.assertIs(type(worth), str)
                self.assertTrue(is_name(worth) if kind == "name" else worth)

    def test_commands_are_of_the_kinds_told(self):
        sources = ["", "a", "a {b} \"c $d [e;f [g]] h\" i${j}k[]; {} \"\"", within(12)]
        for source in sources:
            self.assertIs(type(parsed(source)), list)
            self.check_commands(parsed(source))

    def test_each_short_text_is_a_script_or_has_a_wrong_place(self):
        for many in range(6):
            for signs in itertools.product("a{}\"$[]\\;# \n" if many < 5 else "a{}\"$[]\\", repeat=many):
                source = "".join(signs)
                try:
                    commands = parsed(source)
                except BadScript as bad:
                    self.assertIn(source[bad.place], "a{}\"$[]\\#", source)
                else:
                    self.check_commands(commands)

    def test_each_list_is_a_new_one(self):
        first = parsed("a")
        first.append("b")
        self.assertEqual(parsed("a"), [command("a")])

    def test_by_name(self):
        self.assertEqual(parsed(text="a"), [command("a")])

    def test_it_is_defined_in_its_file(self):
        self.assertEqual(scripts.parsed.__module__, "wordrooms.scripts")


class WrongTest(CheckedTest):
    def test_a_brace_that_is_not_closed(self):
        self.check_wrong([("{", 0), ("a {b", 2), ("a;{b {c}", 2), ("[a {b]", 3), ("{a\n", 0), ("{\\", 0)])

    def test_a_quote_that_is_not_closed(self):
        self.check_wrong([("\"", 0), ("a \"b", 2), ("a \"b\\\"", 2), ("\"[a]", 0), ("\"a;\nb", 0), ("\"[\"]", 2)])

    def test_what_stands_behind_a_closed_word(self):
        self.check_wrong([
            ("{a}b", 3), ("{a}{b}", 3), ("{}}", 2), ("{a}\"", 3), ("{a}$b", 3), ("{a}#", 3), ("{a}[b]", 3),
            ("\"a\"b", 3), ("\"a\"\"b\"", 3), ("\"\"{}", 2), ("a;\"\"\\", 4), ("{\\}}", 3),
            ("{a}]", 3), ("\"a\"]", 3), ("[{a}b]", 4), ("[\"a\"b]", 4),
        ])

    def test_a_turn_at_the_end(self):
        self.check_wrong([("\\", 0), ("a \\", 2), ("a\\", 1), ("\\\\\\", 2), ("[a \\", 3), ("\"a\\", 2)])

    def test_no_name_behind_a_dollar_sign(self):
        self.check_wrong([
            ("$", 0), ("a $", 2), ("a$ b", 1), ("$A", 0), ("$1", 0), ("$$a", 0), ("$\\a", 0), ("$[a]", 0),
            ("\"$\"", 1), ("[$]", 1), ("$;", 0), ("$\n", 0),
        ])

    def test_no_name_in_braces_behind_a_dollar_sign(self):
        self.check_wrong([
            ("${}", 0), ("${", 0), ("a ${a", 2), ("${A}", 0), ("${a b}", 0), ("${ a}", 0), ("${a1}", 0),
            ("\"${a\"", 1), ("[${a]}", 1),
        ])

    def test_a_name_of_more_than_eight_letters(self):
        self.check_wrong([("$abcdefghi", 0), ("a x$abcdefghij", 3), ("${abcdefghi}", 0), ("\"$abcdefghi\"", 1)])

    def test_a_run_that_is_not_closed(self):
        self.check_wrong([("[", 0), ("a [b", 2), ("a [b;", 2), ("a[b\\]", 1), ("[a {b]}", 0), ("[a \"b\"", 0)])

    def test_the_innermost_open_one(self):
        self.check_wrong([
            ("[a [b", 3), ("[a [b]", 0), ("\"a [b", 3), ("[a \"b", 3), ("[a \"b]", 3), ("\"[a \"b", 4),
            ("\"a [b]", 0), ("\"[\"]\"", 1),
        ])

    def test_of_several_wrong_places_the_one_met_first(self):
        self.check_wrong([
            ("[a $", 3), ("\"a $B", 3), ("[a {b", 3), ("\"[a {b", 4), ("{a}b {", 3), ("[a {b}c", 6),
            ("\"a\"b $", 3), ("$ {", 0), ("{ $", 0), ("[\\", 1), ("\"\\", 1), ("\"[a]\"x $", 5),
        ])

    def test_twelve_runs_within_one_another(self):
        tree = command("a")
        for _ in range(12):
            tree = ((run(tree),),)
        self.assertEqual(parsed(within(12)), [tree])
        self.assertEqual(len(parsed(within(12) + ";" + within(12))), 2)

    def test_the_thirteenth_run(self):
        self.check_wrong([
            (within(13), 12), ("b " + within(14), 14), ("[" * 13, 12), ("[" * 12, 11), (within(12) + within(13), 37),
            ("\"[" * 13, 25), ("[b [c]" * 7, 36), ("[" * 12 + "a $", 14),
        ])
        self.assertEqual(len(parsed("[" * 12 + "{[}" + "]" * 12)), 1)
        self.assertEqual(len(parsed("[" * 12 + "\\[" + "]" * 12)), 1)


class LengthTest(CheckedTest):
    def test_1000_signs(self):
        self.check([("a" * 1000, [command("a" * 1000)]), ("a;" * 500, [command("a")] * 500)])
        self.check_wrong([("a" * 999 + "\\", 999), ("{" * 1000, 0)])

    def test_1001_signs_go_ahead_of_a_wrong_script(self):
        for source in ("a" * 1001, " " * 1001, "{" * 1001, "a" * 1000 + "\\", "$" + "b" * 1000, "[" * 5000):
            with self.assertRaises(BadText):
                parsed(source)


class ListsTest(CheckedTest):
    WORDS = ("", "a", " ", "{", "}", "{}", "\\", "\"", "$a", "[a]", "]", ";", "#", "\n", "a b c", "a\n;\n#", "\"a\"")

    def test_a_list_is_one_command(self):
        for many in (1, 2, 3):
            for words in itertools.product(self.WORDS, repeat=many):
                self.check([(list_text(words), [command(*words)])])

    def test_the_empty_list_is_no_command(self):
        self.check([(list_text([]), [])])

    def test_each_short_word(self):
        for many in range(5):
            for signs in itertools.product("{}\\\n \"$[];#an", repeat=many):
                word = "".join(signs)
                self.check([(list_text([word]), [command(word)])])


if __name__ == "__main__":
    unittest.main()
