"""Watchers: for which words they speak, in which order, in which room, and what they do."""

import unittest

from both import BothTest


class WatchTest(BothTest):
    def test_for_each_word(self):
        for words, row in [("read", "n read"), ("set", "n set"), ("end", "n end"), ("{read set}", "n set n read"),
                           ("{end read set}", "n set n read n end"), ("{set end}", "n set n end")]:
            self.check("watch n " + words + " {put row}; set n 1; list $n; end n; set row", "done", row)

    def test_what_is_run(self):
        self.check("watch n set {put row a {b c}}; set n 1; set row", "done", "a b\\ c n set")
        self.check("watch n set { put\n row {} }; set n 1; set row", "done", "{} n set")
        self.check("watch n set {put row {$n [say b]} \\;}; set n 1; set row", "done", "{$n [say b]} \\; n set", said="")
        self.check("watch n set list; set n 1", "done", "1", steps=3)

    def test_the_eldest_first(self):
        ahead = ("watch n set {put row a}; watch n {read set} {put row b}; watch n set {put row c}",)
        self.check("set n 1; set row", "done", "a n set b n set c n set", ahead=ahead)
        self.check("set n 1; end row; set n; set row", "done", "b n read", ahead=ahead)
        self.check("watch n set {put row a}; watch n set {put row a}; set n 1; set row", "done", "a n set a n set")

    def test_ahead_of_a_reading_and_behind_the_others(self):
        told = "told w {a b} {above 1 {put row [has n]}}; watch n {set end} w; told r {a b} {above 1 {set n 5}}; watch n read r"
        self.check("set n 1; list $n", "done", "5", ahead=(told,), texts={"n": "5", "row": "1"})
        self.check("set n 1; end n; set row", "done", "1 0", ahead=(told,))

    def test_a_name_that_isn_t_there_is_read_with_its_watchers(self):
        self.check("list $n", "failed", "no name n", ahead=("watch n read {put row}",), texts={"row": "n read"})
        self.check("list $n", "done", "5", ahead=("told r {a b} {above 1 {set n 5}}; watch n read r",), texts={"n": "5"})
        self.check("list $n", "done", "5", ahead=("told r {a b} {above 1 {set k 5; link 0 k n}}; watch n read r",))
        self.check("list $m", "done", "5", ahead=("told r {a b} {above 1 {set n 5}}; watch n read r; link 0 n m",))
        self.check("list $m", "failed", "no name m", ahead=("watch n read {put row}; link 0 n m",), texts={"row": "m read"})
        self.check("list $n", "failed", "no name n", ahead=("told r {a b} {above 1 {end n}}; watch n read r; set n 1",),
                   trail="")
        self.check("list $n", "failed", "no name n", ahead=("told r {a b} {above 1 {end n}}; watch n read r",), trail="r")

    def test_bad_words(self):
        for words in ("{}", "{ }", "a", "{read a}", "{read read}", "{set end set}", "Read", "reads", "{{read set}}", "{read {}}"):
            self.check("watch n " + words + " list; say a", "failed", "bad words", said="")
        self.check_failed([("watch n read {}", "bad words"), ("watch n {} {}", "bad words"), ("watch n read { \n}", "bad words"),
                           ("watch n a", "wrong count"), ("watch N \\{ \\{", "bad name"), ("watch n \\{ \\{", "no list"),
                           ("watch n a \\{", "no list"), ("watch n a {}", "bad words")])
        self.check("watch n read {{}}; set n 1; set n", "failed", "no command")

    def test_what_is_not_watched(self):
        self.check("watch n {read set end} fail; has n; names; each m {a} {}; watch n set fail; silence n", "done", "")
        self.check("watch n {read set end} fail; link 0 n m; has m; link 0 m k", "done", "")
        self.check("told f {n} {has n}; watch n {read set end} fail; f 1", "done", "1")


class SilenceTest(BothTest):
    def test_it_takes_all(self):
        ahead = ("watch n set {put row}; watch n {set read} {put row}; watch m set {put row}",)
        land = self.check("silence n; set n 1; list $n; set m 1", "done", "1", ahead=ahead,
                          texts={"n": "1", "m": "1", "row": "m set"})
        self.assertEqual(self.say(land, "silence m; set m 2; set row"), ("done", "m set"))
        self.check("silence n; watch n set {put row a}; set n 1; set row", "done", "a n set", ahead=ahead)

    def test_through_a_link(self):
        self.check("watch n set fail; link 0 n m; silence m; set n 1", "done", "1")
        self.check("link 0 n m; watch m set {put row}; set n 1; set row", "done", "n set")
        self.check("link 0 n m; watch m set {put row}; silence n; set m 1", "done", "1", texts={"m": "1", "n": "1"})

    def test_nothing_to_take(self):
        self.check("silence n", "done", "", texts={})
        self.check("silence N", "failed", "bad name")

    def test_while_they_speak_it_is_what_it_was_at_the_touch(self):
        self.check("told w {a b} {above 1 {silence n}}; watch n set w; watch n set {put row}; set n 1; set n 2; set row", "done",
                   "n set", texts={"n": "2", "row": "n set"})
        self.check("told w {a b} {above 1 {watch n set {put row}}}; watch n set w; set n 1; has row", "done", "0")
        self.check("told w {a b} {above 1 {watch n set {put row}}}; watch n set w; set n 1; set n 2; set row", "done", "n set")
        self.check("told w {a b} {above 1 {end n; link 0 m n}}; watch n set w; watch n set {put row}; set n 1; set n 2; set row",
                   "done", "n set", texts={"n": "2", "m": "2", "row": "n set"})


class SilentTest(BothTest):
    """While one of a name's watchers runs, this name's are silent."""

    def test_the_name_s_own(self):
        ahead = ("told w {a b} {above 1 {put row b; set n 2; list $n; end n; set n 3}}", "watch n {read set end} w")
        self.check("set n 1; set row", "done", "b", ahead=ahead, texts={"n": "3", "row": "b"})
        self.check("set n 1; list $n", "done", "3", ahead=ahead, texts={"n": "3", "row": "b b"})
        self.check("set n 1; end n; has n", "done", "1", ahead=ahead, texts={"n": "3", "row": "b b"})
        self.check("watch n set {set}; set n 1", "done", "1", texts={"n": "set"})

    def test_by_another_name(self):
        self.check("link 0 n m; told w {a b} {above 1 {put row b; set m 2}}; watch n set w; set n 1; set row", "done", "b",
                   texts={"n": "2", "m": "2", "row": "b"})

    def test_by_way_of_another_name_s_watcher(self):
        self.check("watch a set {put b}; watch b set {put a}; set a 1", "done", "1", texts={"a": "1 b set", "b": "a set"}, steps=5)

    def test_all_of_them(self):
        self.check("told w {a b} {above 1 {set n 2}}; watch n set w; watch n set {put row}; set n 1; set row", "done", "n set")

    def test_other_names_are_not(self):
        self.check("watch n set {put m}; watch m set {put row}; set n 1; set row", "done", "m set")
        self.check("told w {n b} {set n 2; above 1 {put row a}}; watch n set w; set n 1; set row", "done", "a")

    def test_a_name_of_a_room_below_is_another_one(self):
        self.check("told w {a b} {watch n set {put k}; set n 3; say $k}; watch n set w; set n 1", "done", "1", texts={"n": "1"})

    def test_they_speak_again_behind_it(self):
        self.check("watch n set {put row}; set n 1; set n 2; set row", "done", "n set n set")
        self.check("watch n set {put row}; watch n end fail; set n 1; catch {end n}; set n 2; set row", "done", "n set n set")

    def test_they_speak_again_in_the_next_deed(self):
        for source, most, word in [("set n 1", 1, "tired"), ("set n 1", 2, "tired"), ("set n 1; fail a", 400, "failed")]:
            land = self.land("told w {a b} {above 1 {put row a}}; watch n set w; set row {}")
            self.say(land, source, most)
            self.assertEqual(self.say(land, "set row {}; set n 2; set row"), ("done", "a"))
        land = self.land("told w {a b} {w 1 2}; watch n set w")
        self.assertEqual(self.say(land, "set n 1"), ("deep", ""))
        self.assertEqual(self.say(land, "told w {a b} {above 1 {put row b}}; set n 1; set row"), ("done", "b"))


class EndTest(BothTest):
    """How a watcher ends."""

    def test_a_fault_is_that_of_the_touch(self):
        ahead = ("set n 1; told w {a b} {fail c}; watch n read w; watch m set w; watch k end w; set k 1",)
        for source in ("list $n", "set n", "add n", "put n a", "set m 1", "each m {a b} {say d}", "catch {} m", "put m", "end k",
                       "say [list $n]", "say $n[say e]"):
            self.check(source + "; say b", "failed", "c", ahead=ahead, trail="w", said="")
        self.check("say $n", "failed", "c", ahead=ahead, trail="w", steps=2)

    def test_the_watchers_behind_it_do_not_run(self):
        self.check("watch n set {put row a}; watch n set fail; watch n set {put row b}; catch {set n 1}; set row", "done", "a n set")
        self.check("watch n set nosuch; watch n set {put row b}; set n 1", "failed", "no command", texts={"n": "1"})

    def test_other_codes_are_as_done(self):
        # The name by which it was reached is the script that such a watcher runs.
        for code in ("stop", "next", "tell"):
            source = "set CODE 1; say $CODE; end CODE; say b".replace("CODE", code)
            self.check(source, "done", "", ahead=("watch " + code + " {read set end} {if 1}",), said="1 b", steps=10)
        self.check("set list 1; set list", "done", "1", ahead=("watch list {read set} {if 1}",))

    def test_a_told_command_s_codes(self):
        for script in ("tell a", "list a", "do {tell a}; fail a"):
            ahead = ("told w {a b} {" + script + "}; watch n {read set end} w",)
            self.check("set n 1; say $n; end n; say b", "done", "", ahead=ahead, said="1 b")
        for script, fault in (("stop", "stray stop"), ("do {next}", "stray next"), ("fail a", "a")):
            ahead = ("told w {a b} {" + script + "}; watch n {read set} w",)
            self.check("set n 1; say b", "failed", fault, ahead=ahead, trail="w", said="", texts={"n": "1"})


class RoomTest(BothTest):
    def test_it_runs_where_the_name_was_reached(self):
        ahead = ("told in {script others} {do $script}; set n 1; watch n {read set} {put row}",)
        self.check("in {above 1 {set n 2}; has row}; set row", "done", "n set", ahead=ahead)
        self.check("in {link 1 n k; set k 2; list [has row] $row}; has row", "done", "0", ahead=ahead)
        self.check("in {link 1 n k; set k 2; set row}", "done", "k set", ahead=ahead)
        self.check("in {link 1 n k; list $k[above 1 {set n}]; set row}; set row", "done", "n read", ahead=ahead)
        self.check("told w {a b} {list [here] [above 1 here]; say [here]}; watch n set w; in {in {link top n k; set k 5}}", "done",
                   "5", ahead=ahead, said="3")

    def test_names_of_a_told_command_s_room(self):
        self.check("told f {} {watch a set {put row}; set a 1; set row}; f; has row", "done", "0")
        self.check("told f {} {watch a set {put row}; set a 1; set row}; f", "done", "a set")


if __name__ == "__main__":
    unittest.main()
