"""Runs: how they are cut into goings, what they tell while they wait, and what they leave."""

import unittest

from both import BothTest, deeds, facts
from wordrooms.errors import BadCount, BadScript, BadText
from wordrooms.land import Land, Run

SCRIPTS = [
    "", "say a", "say a; say b; say c", "say [list [list a]]; say $n", "each k {a b c} {say $k}; list done", "fail a", "say a; g",
    "while {less $n 4} {add n; say $n}; tell $n", "say a; stop", "told f {} {f}; say a; f", "while {list 1} {}", "nosuch",
    "set n 5; set n; end n; has n", "h 1 2; h 3", "catch {h} k; list $k", "[say a]", "say a; say $m; say b",
    "do {do {do {say a; tell b; say c}}}; say d", "above top {above 0 {say [here]}}", "say a;;\n# b\n;",
]
AHEAD = ("set n 1; told g {} {say b; fail c}; told h {a others} {say $a; list $others}; watch n {read set end} {put row}",)


class GoTest(BothTest):
    def test_however_it_is_cut(self):
        for source in SCRIPTS:
            for most in (1, 2, 3, 7, 400):
                land = self.land(*AHEAD)
                other = land.twin()
                told = other.say(source, way="led", most=most)
                for many in (1, 2, 3, 5, 400, 10 ** 19):
                    run = land.run(source, most=most)
                    while run.go(many) == "waits":
                        self.assertEqual((run.word(), run.text(), run.trail()), ("waits", "", []))
                        self.assertEqual(run.steps() % many, 0)
                    self.assertEqual((run.word(), run.text()), told)
                    self.assertEqual((run.steps(), run.trail(), run.said()), (other.steps(), other.trail(), other.said()))
                    self.assertTrue(run.left() == other)
                    self.assertEqual(facts(run.left()), facts(other))

    def test_goings_of_unlike_sizes(self):
        run = Land().run("say a; say b; say c; say d; say e; say f")
        self.assertEqual([run.go(), run.said(), run.go(2), run.said()], ["waits", ["a"], "waits", ["a", "b", "c"]])
        self.assertEqual([run.go(many=1), run.steps(), run.go(7), run.steps()], ["waits", 4, "done", 6])

    def test_it_waits_where_one_more_step_would_begin(self):
        run = Land().run("say a; say b")
        self.assertEqual([run.go(1), run.steps(), run.go(1), run.steps()], ["waits", 1, "done", 2])
        self.assertEqual(Land().run("say a").go(1), "done")
        self.assertEqual(Land().run("say a; say b").go(2), "done")
        self.assertEqual(Land().run("say a;; # b").go(1), "done")
        self.assertEqual(Land().run("do {say a}").go(2), "done")
        self.assertEqual(Land().run("fail a; say b").go(1), "failed")
        self.assertEqual(Land().run("say a; stop; say b").go(2), "failed")

    def test_all_words_are_made_ahead_of_it(self):
        run = Land().run("say a; say $n; say b")
        self.assertEqual([run.go(1), run.text(), run.steps(), run.said()], ["failed", "no name n", 1, ["a"]])
        run = Land().run("say a; say [say b; list c]d")
        self.assertEqual([run.go(1), run.go(1), run.said(), run.go(1), run.said()],
                         ["waits", "waits", ["a", "b"], "waits", ["a", "b"]])
        self.assertEqual([run.go(1), run.said()], ["done", ["a", "b", "cd"]])
        land = self.land("set x " + "a" * 501)
        self.assertEqual(land.run("say a; say $x$x").go(1), "failed")
        self.assertEqual(land.run("say $n").go(1), "failed")

    def test_rounds_and_scripts_end_ahead_of_it(self):
        run = Land().run("while {list 0} {}")
        self.assertEqual([run.go(1), run.steps(), run.go(1), run.steps()], ["waits", 1, "done", 2])
        run = Land().run("each n {a b} {}; say $n")
        self.assertEqual([run.go(1), run.left().text("n"), run.go(1)], ["waits", "b", "done"])
        run = Land().run("each n {a b} {say c}")
        self.assertEqual([run.go(1), run.left().text("n"), run.go(1), run.left().text("n"), run.go()],
                         ["waits", "a", "waits", "b", "done"])

    def test_watchers_are_steps(self):
        land = self.land("watch n set {put row}; watch n set {put col}")
        run = land.run("set n 1; say a")
        self.assertEqual([run.go(), run.left().names(), run.go(), run.left().names(), run.go(), run.left().names()],
                         ["waits", ["n"], "waits", ["n", "row"], "waits", ["col", "n", "row"]])
        self.assertEqual([run.go(), run.said(), run.steps()], ["done", ["a"], 4])

    def test_ahead_of_the_first_going_it_waits(self):
        for source in SCRIPTS:
            run = Land().run(source)
            self.assertEqual([run.word(), run.text(), run.steps(), run.trail(), run.said()], ["waits", "", 0, [], []])
            self.assertTrue(run.left() == Land())
        run = Land().run("")
        self.assertEqual([run.word(), run.go(), run.word(), run.text(), run.steps()], ["waits", "done", "done", "", 0])
        run = Land().run("set n [set m 1]$k")
        self.assertEqual([run.word(), run.left().names(), run.go(), run.left().names()], ["waits", [], "failed", ["m"]])

    def test_beyond_the_end(self):
        land = self.land("told f {} {fail b}")
        run = land.run("say a; f; say c")
        self.assertEqual([run.go(100), run.go(), run.go(5), run.word()], ["failed"] * 4)
        self.assertEqual([run.text(), run.steps(), run.trail(), run.said()], ["b", 3, ["f"], ["a"]])
        for source, word in (("list a", "done"), ("while {list 1} {}", "tired"), ("told f {} {f}; f", "deep")):
            run = Land().run(source)
            self.assertEqual([run.go(1000), run.go(), run.word()], [word] * 3)
            self.assertEqual(run.text(), "a" if word == "done" else "")
            self.assertEqual(run.trail(), [])

    def test_below_1(self):
        run = Land().run("say a; say b")
        for many in (0, -1, -400):
            self.assertRaises(BadCount, run.go, many)
            self.assertRaises(BadCount, run.go, many=many)
        self.assertEqual([run.word(), run.steps(), run.go(), run.steps()], ["waits", 0, "waits", 1])
        self.assertRaises(BadCount, run.go, 0)
        run.go(5)
        self.assertRaises(BadCount, run.go, 0)
        self.assertEqual([run.word(), run.steps(), run.said()], ["done", 2, ["a", "b"]])


class MostTest(BothTest):
    def test_it_waits_also_beyond_most(self):
        run = Land().run("say a; say b; say c", most=2)
        self.assertEqual([run.go(2), run.steps(), run.go(1), run.steps()], ["waits", 2, "tired", 2])
        self.assertEqual([run.text(), run.trail(), run.said(), run.left().said()], ["", [], ["a", "b"], ["a", "b"]])
        self.assertEqual(Land().run("say a; say b; say c", most=2).go(3), "tired")
        self.assertEqual(Land().run("say a; say b", most=2).go(2), "done")
        run = Land().run("while {list 1} {}", most=1)
        self.assertEqual([run.go(), run.steps(), run.go(), run.steps()], ["waits", 1, "tired", 1])

    def test_it_is_400_where_nothing_is_told(self):
        run = Land().run("while {list 1} {}")
        self.assertEqual([run.go(400), run.steps(), run.go(), run.steps()], ["waits", 400, "tired", 400])

    def test_deep_does_not_wait(self):
        run = Land().run("do {" * 24 + "}" * 24)
        self.assertEqual([run.go(23), run.go(1), run.steps()], ["waits", "deep", 24])
        land = self.land("watch k set list")
        run = land.run("do {" * 23 + "set k 1" + "}" * 23, most=24)
        self.assertEqual([run.go(23), run.go(1), run.steps(), run.left().text("k")], ["waits", "deep", 24, "1"])

    def test_what_is_refused(self):
        land = self.land("set n 1")
        for most in (0, 2001, -5):
            self.assertRaises(BadCount, land.run, "say a", most=most)
        self.assertRaises(BadScript, land.run, "say [")
        self.assertRaises(BadText, land.run, "a" * 1001)
        self.assertIsInstance(land.run(source="say a", most=1), Run)
        self.assertIsInstance(land.run("say a", most=2000), Run)
        self.assertRaises(TypeError, land.run, "say a", 5)
        self.assertEqual(len(land), 1)


class LeftTest(BothTest):
    def test_while_it_waits(self):
        land = self.land("set n 1; say a", "set n 2")
        run = land.run("set n 3; say b; told f {} {}; rename list {}; watch n set put")
        run.go(2)
        left = run.left()
        self.assertIsInstance(left, Land)
        self.assertEqual((left.text("n"), left.said(), left.body("list")), ("3", ["a", "b"], None))
        self.assertEqual((left.done(), len(left), left.steps(), left.trail()), ([], 0, 0, []))
        self.assertRaises(LookupError, left.undo)
        run.go(5)
        self.assertNotIn("f", left.commands())
        self.assertIn("f", run.left().commands())
        self.assertNotIn("list", run.left().commands())

    def test_it_goes_its_own_way(self):
        land = self.land("set n 1")
        run = land.run("add n; add n; add n")
        run.go()
        left = run.left()
        left.say("set n 50; say z")
        self.assertEqual([run.go(9), run.text(), run.said()], ["done", "4", []])
        self.assertEqual((left.text("n"), run.left().text("n"), land.text("n")), ("50", "4", "1"))
        run.left().say("set n 60")
        self.assertEqual(run.left().text("n"), "4")

    def test_within_rooms_and_watchers(self):
        land = self.land("told f {a} {link top n k; set k $a; set b 1}; told w {n t} {above 1 {list}}; watch n set w")
        run = land.run("f 5; say a")
        while run.go() == "waits":
            left = run.left()
            if left.names():
                self.assertEqual((left.names(), left.text("n")), (["n"], "5"))
                # The watcher runs in the run alone: it isn't silent in what is left.
                self.assertEqual(left.say("told w {n t} {say $t}; set n 1; list $n"), ("done", "1"))
                self.assertEqual(left.said()[-1], "set")
        self.assertEqual((run.said(), run.left().names()), (["a"], ["n"]))

    def test_at_the_end(self):
        land = self.land("told f {} {say b; fail c}")
        run = land.run("set n 1; f")
        run.go(50)
        left = run.left()
        self.assertEqual((left.text("n"), left.said(), left.steps(), left.trail(), len(left)), ("1", ["b"], 0, [], 0))
        self.assertEqual((run.steps(), run.trail()), (4, ["f"]))


class SeveralTest(BothTest):
    def test_a_land_does_not_change(self):
        land = self.land("set n 1; say a; link 0 n m; watch n set {put row}", "set n 2")
        land.undo()
        before = (facts(land), deeds(land))
        run = land.run("set m 5; say b; told f {} {}; rename list {}; silence n; link 0 n k; fail a")
        while run.go() == "waits":
            self.assertEqual((facts(land), deeds(land)), before)
        self.assertEqual((facts(land), deeds(land)), before)
        self.assertEqual(land.redo(), "set n 2")

    def test_by_turns_with_deeds_between(self):
        land = self.land("set n 1")
        source = "add n; told g {a} {list $a}; each k {1 2 3} {add n $k; say $n}; g $n"
        first = land.run(source)
        first.go(2)
        land.say("set n 100; rename add {}")
        second = land.run("say $n; set n 7; say $n; add n")
        third = land.twin().run(source)
        self.assertEqual([second.go(), first.go(), third.go(9)], ["waits", "waits", "failed"])
        land.undo()
        land.undo()
        self.assertEqual([second.go(2), first.go(3), second.said(), first.said()], ["waits", "waits", ["100", "7"], ["3"]])
        land.say("told each others {}")
        fourth = land.run("list $n")
        self.assertEqual([fourth.go(), second.go(9), first.go(50)], ["failed", "failed", "done"])
        self.assertEqual([first.text(), first.said(), second.text(), third.text(), fourth.text()],
                         ["8", ["3", "5", "8"], "no command", "no command", "no name n"])
        self.assertEqual((land.names(), land.done(), first.left().text("n")), ([], ["told each others {}"], "8"))


if __name__ == "__main__":
    unittest.main()
