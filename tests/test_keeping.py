"""Names: set, end, has, add, put, each and catch, with links and watchers."""

import unittest

from both import BothTest

GREAT = "99999999999999999999"
# One watcher for each word, that says the word and what it sees of the name.
WATCHED = ("told see {n w} {say $w}", "watch n read see; watch n set see; watch n end see")
LINKED = ("link 0 n m",)


class SetTest(BothTest):
    def test_it_sets_and_tells(self):
        self.check("set n 1", "done", "1", texts={"n": "1"})
        self.check("set n {}", "done", "", texts={"n": ""})
        self.check("set n {a b}; set n c", "done", "c", texts={"n": "c"})
        self.check("set abcdefgh 1", "done", "1", texts={"abcdefgh": "1"})

    def test_it_reads(self):
        self.check("set n", "done", "1", ahead=("set n 1",), texts={"n": "1"})
        self.check("set n; say b", "failed", "no name n", said="")

    def test_it_tells_its_text_whatever_watchers_set(self):
        self.check("set n 1", "done", "1", ahead=("told w {a b} {above 1 {set n 2}}; watch n set w",),
                   texts={"n": "2"})

    def test_a_fault_of_a_watcher_leaves_it_set(self):
        self.check("set n 1; say b", "failed", "wrong count", ahead=("watch n set {fail b}",), texts={"n": "1"}, said="")

    def test_watchers_of_each_word(self):
        self.check("set n 1", "done", "1", ahead=WATCHED, said="set")
        self.check("set n 1; set n", "done", "1", ahead=WATCHED, said="set read")
        self.check("set n", "failed", "no name n", ahead=WATCHED, said="read")
        self.check("set n 1; list $n$n", "done", "11", ahead=WATCHED, said="set read read")

    def test_through_links(self):
        self.check("set m 1", "done", "1", ahead=LINKED, texts={"n": "1", "m": "1"})
        self.check("set n 1; set m", "done", "1", ahead=LINKED, texts={"n": "1", "m": "1"})
        self.check("set m", "failed", "no name m", ahead=LINKED)
        self.check("list $m", "failed", "no name m", ahead=LINKED)
        self.check("set m 1; set m", "done", "1", ahead=WATCHED + LINKED, said="set read")


class EndTest(BothTest):
    def test_it_isn_t_there_any_more(self):
        self.check("set n 1; end n", "done", "", texts={})
        self.check("set n 1; end n; set n", "failed", "no name n")
        self.check("set n 1; end n; set n 2", "done", "2", texts={"n": "2"})

    def test_a_name_that_isn_t_there(self):
        self.check("end n; say b", "failed", "no name n", ahead=WATCHED, said="", steps=1)
        self.check("end m", "failed", "no name m", ahead=WATCHED + LINKED, said="")
        self.check("set n 1; end n; end n", "failed", "no name n")

    def test_watchers_speak_behind_it_and_stay(self):
        self.check("set n 1; end n; set n 2", "done", "2", ahead=WATCHED, said="set end set")
        self.check("set n 1; end n", "done", "", ahead=("watch n end {put k}",), texts={"k": "n end"})
        self.check("set n 1; end n", "done", "", ahead=("told w {a b} {above 1 {say [has n]}}; watch n end w",), said="0")
        self.check("set n 1; end n; say b", "failed", "wrong count", ahead=("watch n end fail",), texts={}, said="")

    def test_through_links(self):
        self.check("set n 1; end m", "done", "", ahead=LINKED, texts={})
        self.check("set n 1; end m; set m 2", "done", "2", ahead=LINKED, texts={"n": "2", "m": "2"})
        self.check("set n 1; end m", "done", "", ahead=("watch n end {put k}",) + LINKED, texts={"k": "m end"})


class HasTest(BothTest):
    def test_has(self):
        self.check_done([("has n", "0"), ("set n 0; has n", "1"), ("set n {}; has n", "1"), ("set n 1; end n; has n", "0"),
                         ("link 0 n m; has m", "0"), ("link 0 n m; set n 1; has m", "1"), ("watch n set list; has n", "0")])

    def test_it_is_no_reading(self):
        self.check("has n; set n 1; has n", "done", "1", ahead=WATCHED, said="set")
        self.check("has m; set m 1; has m", "done", "1", ahead=WATCHED + LINKED, said="set")


class AddTest(BothTest):
    def test_it_adds(self):
        ahead = ("set n 5",)
        self.check("add n", "done", "6", ahead=ahead, texts={"n": "6"})
        self.check("add n 3", "done", "8", ahead=ahead, texts={"n": "8"})
        self.check("add n -5", "done", "0", ahead=ahead, texts={"n": "0"})
        self.check("add n -7; add n", "done", "-1", ahead=ahead, texts={"n": "-1"})
        self.check("add n 0", "done", "5", ahead=ahead, texts={"n": "5"})

    def test_a_name_that_isn_t_there(self):
        self.check("add n; say b", "failed", "no name n", texts={}, said="")
        self.check("add n", "failed", "no name n", ahead=WATCHED, said="read")
        self.check("add m 2", "failed", "no name m", ahead=LINKED)
        self.check("add n b", "failed", "no number", ahead=WATCHED, said="")

    def test_a_text_that_is_no_number(self):
        for text in ("a", "{}", "007", "-0", "{ 1}", "+1", "1" + "0" * 20):
            self.check("set n " + text + "; add n", "failed", "no number")
        self.check("set n a; add n", "failed", "no number", ahead=WATCHED, said="set read", texts={"n": "a"})

    def test_too_great(self):
        self.check("add n", "failed", "too great", ahead=("set n " + GREAT,), texts={"n": GREAT})
        self.check("add n -1", "failed", "too great", ahead=("set n -" + GREAT,), texts={"n": "-" + GREAT})
        self.check("add n " + GREAT, "done", GREAT, ahead=("set n 0",))
        self.check("set n " + GREAT + "; add n", "failed", "too great", ahead=WATCHED, said="set read", texts={"n": GREAT})

    def test_watchers(self):
        self.check("set n 1; add n", "done", "2", ahead=WATCHED, said="set read set")
        self.check("set n 1; add m 5", "done", "6", ahead=WATCHED + LINKED, said="set read set", texts={"n": "6", "m": "6"})
        ahead = ("set n 1; told w {a b} {above 1 {set n 10}}",)
        self.check("add n", "done", "11", ahead=ahead + ("watch n read w",), texts={"n": "11"})
        self.check("add n", "done", "2", ahead=ahead + ("watch n set w",), texts={"n": "10"})
        self.check("add n", "done", "11", ahead=ahead + ("watch n {read set} w",), texts={"n": "10"})
        self.check("end n; add n", "done", "11", ahead=ahead + ("watch n read w",), texts={"n": "11"})
        self.check("add n", "failed", "wrong count", ahead=ahead + ("watch n read fail",), texts={"n": "1"})
        self.check("add n", "failed", "wrong count", ahead=ahead + ("watch n set fail",), texts={"n": "2"})


class PutTest(BothTest):
    def test_it_puts(self):
        self.check("put n a", "done", "a", texts={"n": "a"})
        self.check("put n", "done", "", texts={"n": ""})
        self.check("put n a {b c} {}; put n d", "done", "a b\\ c {} d", texts={"n": "a b\\ c {} d"})
        self.check("set n {a   {b}}; put n", "done", "a b", texts={"n": "a b"})
        self.check("set n { a\n}; put n {b c d}", "done", "a {b c d}", texts={"n": "a {b c d}"})

    def test_a_text_that_is_no_list(self):
        for text in ("\\{", "{{a}b}", "a\\\\"):
            self.check("set n " + text + "; put n a; say b", "failed", "no list", said="")
        self.check("set n \\{; put n a", "failed", "no list", ahead=WATCHED, said="set read", texts={"n": "{"})

    def test_too_long(self):
        ahead = ("set n " + "a" * 199, "set n $n$n$n$n$n")
        land = self.check("put n bcd", "done", "a" * 995 + " bcd", ahead=ahead)
        self.assertEqual(self.say(land, "put n"), ("done", "a" * 995 + " bcd"))
        self.check("put n bcde", "done", "a" * 995 + " bcde", ahead=ahead, texts={"n": "a" * 995 + " bcde"})
        self.check("put n bcdef", "failed", "too long", ahead=ahead, texts={"n": "a" * 995})
        self.check("put n bcdef", "failed", "too long", ahead=ahead + WATCHED, texts={"n": "a" * 995}, said="read")

    def test_watchers(self):
        self.check("put n a", "done", "a", ahead=WATCHED, said="set")
        self.check("put n a; put n b", "done", "a b", ahead=WATCHED, said="set read set")
        self.check("put m a; put m b", "done", "a b", ahead=WATCHED + LINKED, said="set read set")
        ahead = ("set n a; told w {a b} {above 1 {set n c}}",)
        self.check("put n b", "done", "c b", ahead=ahead + ("watch n read w",), texts={"n": "c b"})
        self.check("put n b", "done", "a b", ahead=ahead + ("watch n set w",), texts={"n": "c"})
        self.check("end n; put n b", "done", "b", ahead=ahead + ("watch n read w",), texts={"n": "b"})
        self.check("put n b", "failed", "no name n", ahead=("set n a; told w {a b} {above 1 {end n}}; watch n read w",))
        self.check("put n b", "failed", "wrong count", ahead=ahead + ("watch n read fail",), texts={"n": "a"})
        self.check("put n b", "failed", "wrong count", ahead=ahead + ("watch n set fail",), texts={"n": "a b"})


class EachTest(BothTest):
    def test_it_sets_the_name(self):
        self.check("each n {a {b c} {}} {put k $n}", "done", "", texts={"n": "", "k": "a b\\ c {}"})
        self.check("each n {} {say a}", "done", "", texts={}, said="")
        self.check("each n {a b} {set n c}; set n", "done", "c")
        self.check("each n {a b} {}", "done", "", texts={"n": "b"})

    def test_the_list_is_that_of_the_beginning(self):
        self.check("each n $k {put k $n; say $n}; set k", "done", "a b a b", ahead=("set k {a b}",), said="a b")
        self.check("each k $k {say $k}", "done", "", ahead=("set k {a b}",), said="a b", texts={"k": "b"})

    def test_watchers_and_links(self):
        self.check("each n {a b} {say $n}", "done", "", ahead=WATCHED, said="set read a set read b")
        self.check("each m {a b} {}", "done", "", ahead=WATCHED + LINKED, said="set set", texts={"n": "b", "m": "b"})
        ahead = ("told w {a b} {above 1 {set n c}}; watch n set w",)
        self.check("each n {a b} {say $n}", "done", "", ahead=ahead, said="c c")
        self.check("each n {a b} {say c}; say d", "failed", "wrong count", ahead=("watch n set fail",), said="",
                   texts={"n": "a"})
        self.check("each n {a b} {end n; say [has n]}; has n", "done", "0", said="0 0")


class CatchTest(BothTest):
    def test_watchers_and_links(self):
        self.check("catch {list a} n", "done", "0", ahead=WATCHED, said="set", texts={"n": "a"})
        self.check("catch {fail a} m", "done", "1", ahead=WATCHED + LINKED, said="set", texts={"n": "a", "m": "a"})
        self.check("catch {tell a} n", "done", "2", ahead=("told w {a b} {above 1 {set n c}}; watch n set w",),
                   texts={"n": "c"})
        self.check("catch {tell a} n; say b", "failed", "wrong count", ahead=("watch n set fail",), texts={"n": "a"}, said="")

    def test_a_fault_in_a_name(self):
        self.check("catch {list $n} k", "done", "1", texts={"k": "no name n"})
        self.check("catch {end n} n", "done", "1", texts={"n": "no name n"})

    def test_it_leaves_what_was_done(self):
        self.check("catch {set n 1; fail a; set n 2}", "done", "1", texts={"n": "1"})

    def test_the_name_is_looked_at_first(self):
        self.check("catch {say a} A", "failed", "bad name", said="")


if __name__ == "__main__":
    unittest.main()
