"""Scripts: how commands are written, and that they are read as the same list."""

import itertools
import random
import unittest

from wordrooms import writer
from wordrooms.lists import list_text
from wordrooms.scripts import parsed
from wordrooms.writer import written

SIGNS = "\n" + "".join([chr(code) for code in range(32, 127) if code != 37])


def text(signs):
    return ("text", signs)


def name(letters):
    return ("name", letters)


def run(*commands):
    return ("run", commands)


def word(*pieces):
    """One command that is one word of these pieces."""
    return [(pieces,)]


class WrittenTest(unittest.TestCase):
    def check(self, commands, source):
        self.assertEqual(written(commands), source)
        self.assertEqual(parsed(source), commands)

    def test_no_commands(self):
        self.check([], "")

    def test_commands_and_words(self):
        self.check([((text("a"),),)], "a")
        self.check([((text("a"),), (text("b"),))], "a b")
        self.check([((text("a"),), (text("b"),)), ((text("c"),),)], "a b; c")
        self.check([((text("a"),),), ((text("b"),),), ((text("c"),),)], "a; b; c")

    def test_the_empty_word(self):
        self.check([((),)], "{}")
        self.check([((), (), (text("a"),)), ((),)], "{} {} a; {}")

    def test_words_without_names_and_runs_are_written_as_in_lists(self):
        for signs in ["a", "a b", "a b c", "{", "{}", "}{", "\n", "a\nb\nc", "\\", "\\\\", "$x[y]\"", "#a", ";", "\"a\""]:
            self.check(word(text(signs)), list_text([signs]))
        self.check(word(text("a b")), "a\\ b")
        self.check(word(text("a b c")), "{a b c}")
        self.check(word(text("$x[y]")), "{$x[y]}")

    def test_a_name(self):
        self.check(word(name("x")), "$x")
        self.check(word(name("abcdefgh")), "$abcdefgh")
        self.check(word(name("x"), name("y")), "$x$y")
        self.check(word(name("x"), run()), "$x[]")

    def test_a_name_ahead_of_a_small_letter(self):
        for letter in "abcdefghijklmnopqrstuvwxyz":
            self.check(word(name("x"), text(letter + " A")), "${x}" + letter + "\\ A")

    def test_a_name_ahead_of_other_signs(self):
        self.check(word(name("x"), text("A")), "$xA")
        self.check(word(name("x"), text("1a")), "$x1a")
        self.check(word(name("x"), text("\na")), "$x\\na")
        self.check(word(name("x"), text("{a")), "$x\\{a")
        self.check(word(name("x"), text("}a")), "$x\\}a")
        self.check(word(name("x"), text(" a")), "$x\\ a")
        for sign in SIGNS:
            if not "a" <= sign <= "z":
                self.assertTrue(written(word(name("x"), text(sign))).startswith("$x"), sign)
                self.assertFalse(written(word(name("x"), text(sign))).startswith("${"), sign)

    def test_a_name_behind_which_a_word_or_a_run_begins(self):
        self.check([((name("x"),), (text("a"),))], "$x a")
        self.check(word(run(((name("x"),),)), text("a")), "[$x]a")

    def test_texts_beside_put_ins_are_turned(self):
        self.check(word(text("a b c"), name("x")), "a\\ b\\ c$x")
        self.check(word(name("x"), text(" \\{}\"$[];#\n")), "$x\\ \\\\\\{\\}\\\"\\$\\[\\]\\;\\#\\n")
        self.check(word(text("{a} {b}"), run()), "\\{a\\}\\ \\{b\\}[]")
        self.check(word(text("#"), name("x")), "\\#$x")
        self.check(word(text("\""), name("x"), text("\"")), "\\\"$x\\\"")

    def test_runs(self):
        self.check(word(run()), "[]")
        self.check(word(run(((text("a"),),))), "[a]")
        self.check(word(text("x"), run(((text("a"),), (text("b"),)), ((text("c"),),)), text("y")), "x[a b; c]y")
        self.check(word(run(), run()), "[][]")
        self.check(word(run(((),))), "[{}]")
        self.check(word(run(((text("]"),), (text("a ] b"),)))), "[\\] {a ] b}]")
        self.check(word(run(((text("a]"),),))), "[a\\]]")

    def test_runs_within_runs(self):
        tree = ((text("a"),),)
        for _ in range(12):
            tree = ((run(tree),),)
        self.check([tree], "[" * 12 + "a" + "]" * 12)
        inner = run(((text("c"),), (name("d"), text("e"))))
        self.check(word(run(((text("b "), inner, text(" f")),))), "[b\\ [c ${d}e]\\ f]")

    def test_each_sign_in_each_place(self):
        for sign in SIGNS:
            signs = text(sign)
            for pieces in [(signs,), (signs, name("x")), (name("x"), signs), (name("x"), signs, run()),
                           (signs, run()), (run(), signs), (run((((signs,)),)),), (run(((name("x"), signs),)),)]:
                commands = word(*pieces)
                self.assertEqual(parsed(written(commands)), commands, repr(sign))

    def test_each_list_s_text_is_written_again(self):
        words = ["", "a", " ", "{", "}", "{}", "\\", "\"", "$a", "[a]", "]", ";", "#", "\n", "a b c"]
        for row in itertools.product(words, repeat=2):
            commands = [tuple([(text(signs),) if signs else () for signs in row])]
            self.check(commands, list_text(row))

    def test_many_trees_are_read_again(self):
        chance = random.Random(7)

        def some_text():
            return text("".join([chance.choice("aZ0 \n\\{}\"$[];#") for _ in range(chance.randint(1, 4))]))

        def some_word(deep):
            pieces = []
            for _ in range(chance.randint(0, 3)):
                kinds = ["name"] + ["run"] * (deep > 0) + ["text"] * (not pieces or pieces[-1][0] != "text")
                kind = chance.choice(kinds)
                if kind == "text":
                    pieces.append(some_text())
                elif kind == "name":
                    pieces.append(name(chance.choice(["x", "abc", "abcdefgh"])))
                else:
                    pieces.append(("run", tuple(some_commands(deep - 1))))
            return tuple(pieces)

        def some_commands(deep):
            return [tuple([some_word(deep) for _ in range(chance.randint(1, 3))]) for _ in range(chance.randint(0, 2))]

        for _ in range(2000):
            commands = some_commands(3)
            source = written(commands)
            if len(source) <= 1000:
                self.assertEqual(parsed(source), commands, source)

    def test_what_is_handed_in_stays_and_may_be_long(self):
        commands = [((text("a" * 1000),), (name("x"), text("b")))] * 3
        again = list(commands)
        self.assertEqual(written(commands=commands), "; ".join(["a" * 1000 + " ${x}b"] * 3))
        self.assertEqual(commands, again)

    def test_it_is_defined_in_its_file(self):
        self.assertEqual(writer.written.__module__, "wordrooms.writer")


if __name__ == "__main__":
    unittest.main()
