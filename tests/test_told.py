"""Told commands and their places, rooms, rename, and commands that change commands while they run."""

import unittest

from both import OWN, BothTest
from wordrooms.errors import NoCommand


class PlacesTest(BothTest):
    def test_places(self):
        self.check("told f {} {names}; f", "done", "")
        self.check("told f a {list $a}; f b", "done", "b")
        self.check("told f {a b} {list $b $a}; f c {d e}", "done", "d\\ e c")
        self.check("told f {b a} {names}; f c d", "done", "a b")
        self.check("told f {abcdefgh a} {list $abcdefgh}; f 1 2", "done", "1")
        self.check("told f { a\n  b } {list $a $b}; f 1 2", "done", "1 2")

    def test_a_place_with_a_text(self):
        ahead = ("told f {a {b x} {c {y z}}} {list $a $b $c}",)
        self.check("f 1", "done", "1 x y\\ z", ahead=ahead)
        self.check("f 1 2", "done", "1 2 y\\ z", ahead=ahead)
        self.check("f 1 2 3", "done", "1 2 3", ahead=ahead)
        self.check("f 1 {} {}", "done", "1 {} {}", ahead=ahead)
        self.check("told f {{a {}}} {list $a}; f", "done", "{}")
        self.check("told f {a\\ x} {list $a}; f", "done", "x")
        self.check("told f {{ a  {x} }} {list $a}; f", "done", "x")
        self.check("told f {{a $k}} {list $a}; f", "done", "\\$k", ahead=("set k 1",))

    def test_others(self):
        ahead = ("told f {a others} {list $a $others}",)
        self.check("f 1", "done", "1 {}", ahead=ahead)
        self.check("f 1 2", "done", "1 2", ahead=ahead)
        self.check("f 1 2 {b c}", "done", "1 {2 b\\ c}", ahead=ahead)
        self.check("f 1 {}", "done", "1 {{}}", ahead=ahead)
        self.check("told f others {list $others}; f", "done", "{}")
        self.check("told f others {tell $others}; f {} a {b c d}", "done", "{} a {b c d}")
        self.check("told f {a {b x} others} {list $a $b $others}; f 1", "done", "1 x {}")
        self.check("told f {a {b x} others} {list $a $b $others}; f 1 2 3 4", "done", "1 2 3\\ 4")

    def test_others_elsewhere_or_with_a_text(self):
        self.check("told f {others a} {list $others $a}; f 1 2", "done", "1 2")
        self.check("told f {others a} {}; f 1", "failed", "wrong count")
        self.check("told f {others a} {}; f 1 2 3", "failed", "wrong count")
        self.check("told f {{others x}} {list $others}; f", "done", "x")
        self.check("told f {{others x}} {list $others}; f {1 2}", "done", "1\\ 2")
        self.check("told f {{others x}} {}; f 1 2", "failed", "wrong count")
        self.check("told f {a {others x}} {list $others}; f 1", "done", "x")
        self.check("told f {{others x} {a y}} {list $others $a}; f", "done", "x y")

    def test_the_count(self):
        for places, least, most in [("{}", 0, 0), ("a", 1, 1), ("{a b}", 2, 2), ("{a {b x}}", 1, 2), ("{{a x} {b x}}", 0, 2),
                                    ("others", 0, 9), ("{a others}", 1, 9), ("{a {b x} others}", 1, 9)]:
            for many in range(9):
                word = "done" if least <= many <= most else "failed"
                self.check("told f " + places + " {list}; f" + " c" * many, word, "" if word == "done" else "wrong count")

    def test_bad_places(self):
        for places in ["A", "1", "abcdefghi", "{a a}", "{a {a x}}", "{{a x} {a y}}", "{a others others}", "{others others}",
                       "{{a x} b}", "{{a x} b others}", "{{others x} a}", "{{a x} {b y} c}", "{{a x y}}", "{{{a}}}", "{{}}",
                       "{a {}}", "{{A x}}", "{{abcdefghi x}}", "{\\{a}b}", "{{others x} others}", "{{a x} others b}",
                       "{{1 x}}", "{{{} x}}", "{{{a b} c}}", "a\\\\\\\\", "{a B}", "{b {A}}", "{a { }}"]:
            land = self.check("told f " + places + " {}; say b", "failed", "bad places", said="")
            self.assertNotIn("f", land.commands())
        land = self.check("told f a {list b}; told f A {}", "failed", "bad places")
        self.assertEqual((land.places("f"), land.body("f")), (["a"], "list b"))

    def test_what_goes_ahead_of_bad_places(self):
        self.check_failed([("told A A", "wrong count"), ("told A \\{ {}", "bad name"), ("told f \\{ {}", "no list"),
                           ("told f A \\[", "bad places")])

    def test_too_long_others(self):
        ahead = ("set x " + "a" * 199, "set x $x$x$x$x$x", "told f {{a x} others} {set others}; told g {} {f 1 $x bcde}")
        self.check("f 1 $x bcd", "done", "a" * 995 + " bcd", ahead=ahead)
        self.check("f 1 $x bcde", "done", "a" * 995 + " bcde", ahead=ahead)
        self.check("f 1 $x bcdef; say c", "failed", "too long", ahead=ahead, said="", steps=1)
        self.check("f 1 $x \\}\\}", "done", "a" * 995 + " \\}\\}", ahead=ahead)
        self.check("f 1 $x \\}\\}\\}", "failed", "too long", ahead=ahead)

    def test_how_places_are_told(self):
        land = self.land("told f {a {b x} {c {}} {d {y z}} others} {list b}; told g {{a   {x}} {b \\n}} {}")
        self.assertEqual(land.places("f"), ["a", "b x", "c {}", "d y\\ z", "others"])
        self.assertEqual(land.places(name="g"), ["a x", "b \\n"])
        self.assertEqual((land.body("f"), land.body(name="g")), ("list b", ""))
        land.places("f").append("z")
        self.assertEqual(land.places("f"), ["a", "b x", "c {}", "d y\\ z", "others"])
        for name in OWN:
            self.assertIsNone(land.places(name))
            self.assertIsNone(land.body(name))
        for name in ("nosuch", "", "A", "a" * 1001):
            self.assertRaises(NoCommand, land.places, name)
            self.assertRaises(NoCommand, land.body, name)


class CallTest(BothTest):
    def test_its_text_and_codes(self):
        self.check_done([("told f {} {}; f", ""), ("told f {} {list a; list b}; f", "b"), ("told f {} {tell a; say b}; f", "a"),
                         ("told f {} {tell a}; list b[f]c; list b[f]c", "bac"), ("told f {} {do {tell a}; say b}; f", "a")])

    def test_a_room_of_its_own(self):
        ahead = ("set n 1; told f {a} {set k $a; list [has n] [has k] [here] [names]}",)
        self.check("f b", "done", "0 1 1 a\\ k", ahead=ahead, texts={"n": "1"})
        self.check("f b; has k", "done", "0", ahead=ahead)
        self.check("told f {} {set n}; f", "failed", "no name n", ahead=("set n 1",), trail="f")
        self.check("told f {} {add n}; told g {} {set n 5; f}; g", "failed", "no name n", ahead=("set n 1",), trail="f g")

    def test_its_names_have_no_watchers_and_go(self):
        ahead = ("watch a set {say}; watch a read {say}",)
        self.check("told f {a} {list $a; set a 2; has a}; f 1; has a", "done", "0", ahead=ahead, said="", texts={})
        self.check("told f {a} {watch a read {put k}; list $a; tell [names]}; list [f 1] [f 2]", "done", "a\\ k a\\ k")

    def test_calls_within_calls(self):
        self.check("told f {n} {if [less $n 2] {tell 1}; times $n [f [minus $n 1]]}; f 5", "done", "120")
        self.check("told f {n} {if $n {f [minus $n 1]} {here}}; f 4", "done", "5")

    def test_it_is_in_place_of_what_had_the_name(self):
        self.check("told say {a} {list b$a}; say c", "done", "bc", said="")
        self.check("told f {} {list a}; told f {b} {list $b}; f", "failed", "wrong count")
        self.check("told f {} {list a}; told f {b} {list $b}; f c", "done", "c")
        land = self.check("told told {a} {say $a}; told b; told f {} {}", "failed", "wrong count", said="b")
        self.assertEqual((land.commands(), land.body("told")), (OWN, "say $a"))

    def test_it_counts_for_all_rooms(self):
        self.check("told f {} {told g {} {list a}}; f; g", "done", "a")

    def test_a_command_that_changes_itself(self):
        land = self.check("told f {} {told f {} {list b}; list a}; list [f] [f]", "done", "a b")
        self.assertEqual(land.body("f"), "list b")
        self.check("told f {} {rename f g; list a}; list [f] [g]", "failed", "no command", trail="g")
        self.check("told f {} {rename f {}; list a}; f; f", "failed", "no command")
        self.check("told f {} {rename f {}; list a}; f", "done", "a")
        self.check("told f {} {rename f g; fail a}; f", "failed", "a", trail="f")
        self.check("while {list 1} {rename while w; stop}; w {list 1} {stop}; while {} {}", "failed", "no command")
        self.check("each a {1 2 3} {if [same $a 1] {rename each {}}; say $a}; say b", "done", "", said="1 2 3 b")

    def test_a_command_that_changes_another_one(self):
        self.check("told f {} {list a}; told g {} {told f {} {list b}}; list [f] [g] [f]", "done", "a {} b")
        self.check("told g {} {rename say {}; say a}; say b; g; say c", "failed", "no command", said="b", trail="g")
        self.check("told g {} {rename f {}}; told f {} {g; list a}; f; f", "failed", "no command")


class StrayTest(BothTest):
    def test_stray_codes_have_a_trail_in_told_commands_alone(self):
        for code in ("stop", "next"):
            ahead = ("told f {} {do " + code + "}; told g {} {f}; told h {} {if 1 {" + code + "}}",)
            self.check("f; say a", "failed", "stray " + code, trail="f", ahead=ahead, said="")
            self.check("g; say a", "failed", "stray " + code, trail="f g", ahead=ahead, said="")
            self.check("each a {b c} {say $a; h}; say a", "failed", "stray " + code, trail="h", ahead=ahead, said="b")
            self.check(code + "; say a", "failed", "stray " + code, trail="", ahead=ahead, said="")
            self.check("catch {f} n; list $n", "done", "stray\\ " + code, ahead=ahead)


class RenameTest(BothTest):
    def test_it_renames(self):
        land = self.check("rename list row; row a", "done", "a")
        self.assertEqual(land.commands(), sorted([name for name in OWN if name != "list"] + ["row"]))
        self.check("rename list row; list a", "failed", "no command")
        self.check("told f {} {list a}; rename f g; g", "done", "a")
        self.check("told f {} {fail a}; rename f g; g", "failed", "a", trail="g")
        self.check("rename list row; rename row list; list a", "done", "a")
        self.check("rename rename move; move say tells; tells a", "done", "", said="a")
        self.check("rename say b; told say {a} {b $a$a}; say c", "done", "", said="cc")
        self.check("rename stop b; while {list 1} {say a; b; say c}; say d", "done", "", said="a d")

    def test_it_takes_away(self):
        land = self.check("rename say {}; say a", "failed", "no command")
        self.assertEqual(land.commands(), [name for name in OWN if name != "say"])
        self.check("told f {} {}; rename f {}; f", "failed", "no command")
        self.check("rename say {}; rename say a", "failed", "no command")
        self.check("rename say {}; told say {a} {}; say b", "done", "")
        self.check("rename rename {}; rename say a", "failed", "no command")

    def test_faults_in_their_order(self):
        self.check_failed([
            ("rename A", "wrong count"), ("rename say", "wrong count"), ("rename A B c", "wrong count"), ("rename A B", "bad name"),
            ("rename {} say", "bad name"), ("rename nosuch B", "no command"), ("rename nosuch say", "no command"),
            ("rename nosuch {}", "no command"), ("rename say B", "bad name"), ("rename say abcdefghi", "bad name"),
            ("rename say { }", "bad name"), ("rename say list", "taken"), ("rename say say", "taken"), ("rename f say", "taken"),
            ("rename say f", "taken"), ("rename f f", "taken"),
        ], ahead=("told f {} {}",))

    def test_what_is_refused_changes_nothing(self):
        for source in ("rename say B", "rename say list", "rename say say", "rename nosuch a"):
            land = self.check("catch {" + source + "}; say a", "done", "", said="a")
            self.assertEqual(land.commands(), OWN)


if __name__ == "__main__":
    unittest.main()
