"""The trail of a fault: the told commands that were being run when it came up, the innermost first."""

import unittest

from both import BothTest

CALLS = ("told f {} {fail a}; told g {} {f}; told h {} {say b; g; say c}",)


class TrailTest(BothTest):
    def test_none(self):
        for source, fault in [("fail a", "a"), ("nosuch", "no command"), ("say", "wrong count"), ("say $n", "no name n"),
                              ("do {[}", "bad script"), ("stop", "stray stop"), ("do next", "stray next"), ("if 1 {fail a}", "a")]:
            self.check(source, "failed", fault, trail="")
        self.check("h", "done", "", ahead=("told h {} {}",), trail="")
        self.check("", "done", "", trail="")

    def test_the_innermost_first(self):
        self.check("f", "failed", "a", ahead=CALLS, trail="f")
        self.check("g", "failed", "a", ahead=CALLS, trail="f g")
        self.check("h", "failed", "a", ahead=CALLS, trail="f g h", said="b")
        self.check("told r {n} {if $n {r [minus $n 1]} {fail a}}; r 3", "failed", "a", trail="r r r r")

    def test_each_kind_of_fault(self):
        for inner, fault in [("nosuch", "no command"), ("say", "wrong count"), ("set n", "no name n"), ("list $n", "no name n"),
                             ("sum a", "no number"), ("do {[}", "bad script"), ("stop", "stray stop"), ("if 1 next", "stray next")]:
            self.check("told f {} {" + inner + "}; told g {} {list [f]}; g", "failed", fault, trail="f g")

    def test_through_scripts(self):
        for frame in ("do {f}", "if 1 {f}", "say [f]", "above top {f}", "while {f} {}", "while {list 1} {f}", "each k a {f}",
                      "say a[do {say [f]}]"):
            self.check("told k {} {" + frame + "}; k", "failed", "a", ahead=CALLS, trail="f k", said="")
            self.check(frame, "failed", "a", ahead=CALLS, trail="f", said="")

    def test_a_call_that_is_refused_isn_t_run_yet(self):
        self.check("told k {} {f 1}; k", "failed", "wrong count", ahead=CALLS, trail="k")
        self.check("f 1", "failed", "wrong count", ahead=CALLS, trail="")
        ahead = ("set x " + "a" * 500 + "; told m others {}; told k {} {above 1 {m $x $x}}",)
        self.check("m $x $x", "failed", "too long", ahead=ahead, trail="")
        self.check("k", "failed", "too long", ahead=ahead, trail="k")

    def test_one_whose_script_is_none_is_run(self):
        self.check("told k {} {m}; told m {} \\[; k", "failed", "bad script", trail="m k")
        self.check("told m {} {do \\[}; m", "failed", "bad script", trail="m")

    def test_words_that_are_made(self):
        self.check("told k {n} {}; k [f]", "failed", "a", ahead=CALLS, trail="f")
        self.check("told k {} {say [g]}; k", "failed", "a", ahead=CALLS, trail="f g k")

    def test_the_name_by_which_it_was_called(self):
        self.check("rename f k; told g {} {k}; g", "failed", "a", ahead=CALLS, trail="k g")
        self.check("told k {} {rename k m; fail a}; k", "failed", "a", trail="k")
        self.check("told k {} {rename k {}; fail a}; told m {} {k}; m", "failed", "a", trail="k m")
        self.check("told k {} {rename k m; told k {} {}; m1}; k", "failed", "no command", trail="k")

    def test_own_commands_told_anew(self):
        self.check("told say {a} {fail $a}; told k {} {say b}; k", "failed", "b", trail="say k")

    def test_watchers(self):
        ahead = CALLS + ("told w {n t} {g}; watch n {read set end} w; watch m read nosuch; set m 1",)
        self.check("set n 1", "failed", "a", ahead=ahead, trail="f g w")
        self.check("told k {} {link top n j; set j 1}; k", "failed", "a", ahead=ahead, trail="f g w k")
        self.check("told k {} {link top m j; say $j}; k", "failed", "no command", ahead=ahead, trail="k")
        self.check("watch k set f; set k 1", "failed", "wrong count", ahead=CALLS, trail="")

    def test_stray_codes(self):
        for code in ("stop", "next"):
            ahead = ("told f {} {say [" + code + "]}; told g {} {f}",)
            self.check("f", "failed", "stray " + code, ahead=ahead, trail="f")
            self.check("g", "failed", "stray " + code, ahead=ahead, trail="f g")
            self.check("each n {a b} {g}", "failed", "stray " + code, ahead=ahead, trail="f g")

    def test_what_is_caught_has_none(self):
        self.check("catch {h}", "done", "1", ahead=CALLS, trail="")
        self.check("catch {h}; told k {} {fail b}; k", "failed", "b", ahead=CALLS, trail="k")
        self.check("catch {h} n; fail $n", "failed", "a", ahead=CALLS, trail="")
        self.check("told k {} {catch {h} n; fail $n}; k", "failed", "a", ahead=CALLS, trail="k")

    def test_tired_and_deep_have_none(self):
        self.check("told k {} {while {list 1} {}}; k", "tired", "", trail="")
        self.check("told k {} {k}; k", "deep", "", trail="")

    def test_it_is_that_of_the_last_deed(self):
        land = self.land(*CALLS)
        self.say(land, "g")
        self.assertEqual(land.trail(), ["f", "g"])
        land.trail().append("z")
        self.assertEqual(land.trail(), ["f", "g"])
        self.say(land, "list a")
        self.assertEqual(land.trail(), [])


if __name__ == "__main__":
    unittest.main()
