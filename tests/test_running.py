"""Running: words and what is put in, codes and texts, too long, steps, tired, deep, bad script."""

import unittest

from both import OWN, BothTest
from wordrooms import ends, land
from wordrooms.lists import list_text

# A name x of 1000 signs, and w of 995.
LONG = ("set x " + "a" * 100 + "; set x $x$x$x$x$x$x$x$x$x$x", "set w " + "b" * 199 + "; set w $w$w$w$w$w")
# A name k of 500 signs, each of which has to be turned in a list.
CLOSED = ("set k " + "\\}" * 100, "set k $k$k$k$k$k")


class WordsTest(BothTest):
    def test_constants(self):
        self.assertEqual((ends.DEEPEST, land.STEPS), (24, 400))

    def test_the_text_is_that_of_the_last_command(self):
        self.check_done([
            ("", ""), ("# remark", ""), (" ; \n", ""), ("set a 5", "5"), ("set a 5; list b", "b"),
            ("set a 5; say b", ""), ("list a\nlist b c", "b c"), ("list {}", "{}"),
        ])

    def test_each_kind_of_piece(self):
        self.check_done([
            ("list a", "a"), ("list $n", "one"), ("list x$n[list b]y", "xoneby"), ("list \"$n $n\"", "one\\ one"),
            ("list ${n}x$n", "onexone"), ("list {$n [b]}", "{$n [b]}"), ("list \\$n", "\\$n"),
            ("list $n$m[list $n]", "onetwoone"), ("list \"[list \"$n b\"]\"", "{one\\ b}"), ("list [] \"\" {}", "{} {} {}"),
            ("list [list a; list b]", "b"), ("list a[set n]b", "aoneb"), ("[list set] n 3", "3"),
        ], ahead=("set n one; set m two",))

    def test_words_are_made_from_the_left_to_the_right(self):
        self.check_done([
            ("list $n [set n 2] $n", "1 2 2"),
            ("list $n[set n 2]$n [set n 3]$n $n", "122 33 3"),
            ("set n [add n][add n]", "23"),
            ("list [list $n [set n 5]] $n", "1\\ 5 5"),
        ], ahead=("set n 1",))

    def test_what_is_put_in_is_not_read_again(self):
        self.check("list $n", "done", "{$m [fail b]; c}", ahead=("set n {$m [fail b]; c}",))
        self.check("$n", "failed", "no command", ahead=("set n {say a}",))
        self.check("$n a", "done", "", ahead=("set n say",), said="a")
        self.check("list [list {$m;}]", "done", "{{$m;}}")
        self.check("list a$n", "done", "a\\\"\\ \\{", ahead=("set n \"\\\" {\"",))
        self.check("set k \"a b\"; list $k c", "done", "a\\ b c")

    def test_words_of_which_nothing_comes_count(self):
        self.check_failed([("{}", "no command"), ("[]", "no command"), ("\"\" a", "no command"), ("$n", "no command")],
                          ahead=("set n {}",))
        self.check("say {}; say []; say $n", "done", ahead=("set n {}",))

    def test_a_name_that_is_not_there(self):
        land = self.check("say a; list $n [say b]; say c", "failed", "no name n", steps=1, said="a")
        self.assertEqual(land.names(), [])
        self.check("list [list $abcdefgh]", "failed", "no name abcdefgh", steps=0)

    def test_a_run_s_code_ends_the_script_around_it(self):
        self.check("say a[fail b][say c] [say d]; say e", "failed", "b", steps=1, said="")
        self.check("say [tell b]; say c", "done", "b", steps=1, said="")
        self.check("say [say a; stop; say b]; say c", "failed", "stray stop", steps=2, said="a")
        self.check("say [[next]]; say c", "failed", "stray next", steps=1, said="")
        self.check("list [list [list [tell b]]]; say c", "done", "b", steps=1, said="")

    def test_a_run_runs_in_the_same_room(self):
        self.check("list [set n 1]$n", "done", "11", texts={"n": "1"})
        self.check("told f {a} {list [set a 2; here]$a}; f 1", "done", "12", texts={})

    def test_a_command_that_is_not_there(self):
        self.check_failed([(name, "no command") for name in ("nosuch", "A", "{}", "{a b}", "1", "abcdefghi", "Say", "{say }")])
        self.check("say a; nosuch [say b]; say c", "failed", "no command", steps=3, said="a b")

    def test_a_command_is_looked_for_when_its_words_are_made(self):
        self.check("nosuch [told nosuch {a} {list b}]", "done", "b", steps=3)
        self.check("list [rename list {}]", "failed", "no command", steps=2)


class LengthTest(BothTest):
    def test_words(self):
        self.check("say $x; say $x", "done", ahead=LONG, said="a" * 1000 + " " + "a" * 1000)
        self.check("say ${x}b; say c", "failed", "too long", ahead=LONG, steps=0, said="")
        self.check("say b; say b$x [say c]", "failed", "too long", ahead=LONG, steps=1, said="b")
        self.check("say \\ $x", "failed", "too long", ahead=LONG, steps=0, said="")
        self.check("set k $w[list abcde]", "done", "b" * 995 + "abcde", ahead=LONG)
        self.check("say $w[list abcdef]", "failed", "too long", ahead=LONG, steps=1, said="")
        self.check("$x$x", "failed", "too long", ahead=LONG, steps=0)
        self.check("$x", "failed", "no command", ahead=LONG, steps=1)

    def test_told_texts(self):
        self.check("list $x", "done", "a" * 1000, ahead=LONG)
        self.check("tell $x", "done", "a" * 1000, ahead=LONG)
        self.check("fail $x", "failed", "a" * 1000, ahead=LONG)
        self.check("set k $x", "done", "a" * 1000, ahead=LONG)
        self.check("list $w cdef", "done", "b" * 995 + " cdef", ahead=LONG)
        self.check("list $w cdefg; say a", "failed", "too long", ahead=LONG, steps=1, said="")
        self.check("say [list $x {}]", "failed", "too long", ahead=LONG, steps=1, said="")
        self.check("told f {} {list $x $x}; f", "failed", "no name x", ahead=LONG, trail="f")
        self.check("told f {} {above top {list $x $x}}; f", "failed", "too long", ahead=LONG, trail="f")

    def test_lists_that_are_longer_written(self):
        self.check("list $k", "done", "\\}" * 500, ahead=CLOSED)
        self.check("list $k\\}", "failed", "too long", ahead=CLOSED)
        self.check("list [list $k] a", "failed", "too long", ahead=CLOSED)

    def test_join_and_cut(self):
        self.check("join $w cdef", "done", "b" * 995 + " cdef", ahead=LONG)
        self.check("join $w cdefg", "failed", "too long", ahead=LONG)
        self.check("cut $k 0 1", "done", "\\}" * 500, ahead=CLOSED)
        self.check("cut $k\\} 0 1", "failed", "too long", ahead=CLOSED)
        self.check("cut $k\\} 1 1", "done", "", ahead=CLOSED)
        self.check("join $k", "done", "\\}" * 500, ahead=CLOSED)
        self.check("join $k\\}", "failed", "too long", ahead=CLOSED)

    def test_names(self):
        land = self.land(*["set " + letter + "bcdefgh 1" for letter in "abcdefghijklmnopqrstuvwxyz"])
        for letters in ("bb", "cc", "dd", "ee"):
            for letter in "abcdefghijklmnopqrstuvwxyz":
                if len(land.names()) < 111:
                    self.say(land, "set " + letters + letter + "aaaaa 1")
        self.assertEqual(self.say(land, "names"), ("done", list_text(land.names())))
        self.assertEqual(len(list_text(land.names())), 998)
        self.say(land, "set z 1")
        self.assertEqual(len(list_text(land.names())), 1000)
        self.assertEqual(self.say(land, "names"), ("done", list_text(land.names())))
        self.say(land, "end z; set zz 1")
        self.assertEqual(self.say(land, "names"), ("failed", "too long"))
        self.assertEqual(self.say(land, "told f {} {names}; f"), ("done", ""))


class CodesTest(BothTest):
    """Each code at its ends: where it goes on, the rest of each script is left out."""

    CODES = [("stop", "failed", "stray stop"), ("next", "failed", "stray next"), ("tell b", "done", "b"),
             ("tell", "done", ""), ("fail b", "failed", "b")]

    def test_where_each_code_goes_on(self):
        frames = ["CODE; say n", "list [CODE; say n]; say n", "list a[CODE]b [say n]; say n", "do {CODE; say n}; say n",
                  "if 1 {CODE; say n}; say n", "if 0 {} {CODE; say n}; say n", "above 0 {CODE; say n}; say n",
                  "above top {CODE; say n}; say n", "while {CODE; say n} {say n}; say n", "do CODE; say n",
                  "do {list [CODE]}; say n", "if [CODE] {say n}; say n", "$k[CODE]"]
        for code, word, text in self.CODES:
            for frame in frames:
                self.check(frame.replace("CODE", code), word, text, said="", ahead=("set k 1",))

    def test_rounds(self):
        for code, word, text in self.CODES[2:]:
            self.check("while {list 1} {" + code + "; say n}; say n", word, text, said="")
            self.check("each a {b c} {" + code + "; say n}; say n", word, text, said="", texts={"a": "b"})
        for loop in ("while {less $i 3} {add i; SCRIPT}", "each i {1 2 3} {SCRIPT}"):
            told = loop + "; say e; set i"
            ahead = ("set i 0",)
            self.check(told.replace("SCRIPT", "say $i; stop; say n"), "done", "1", said="1 e", ahead=ahead)
            self.check(told.replace("SCRIPT", "say $i; next; say n"), "done", "3", said="1 2 3 e", ahead=ahead)
            self.check(told.replace("SCRIPT", "say $i; list [next]; say n"), "done", "3", said="1 2 3 e", ahead=ahead)
            self.check(told.replace("SCRIPT", "if 1 {do {say [stop]}}; say n"), "done", "1", said="e", ahead=ahead)
            self.check(told.replace("SCRIPT", "say $i"), "done", "3", said="1 2 3 e", ahead=ahead)
            self.check(loop.replace("SCRIPT", "list a"), "done", "", ahead=ahead)
            self.check(loop.replace("SCRIPT", "stop"), "done", "", ahead=ahead)
            self.check(loop.replace("SCRIPT", "next"), "done", "", ahead=ahead)

    def test_a_test_s_code_goes_beyond_its_rounds(self):
        self.check("each a {1 2} {say $a; while {stop} {say n}; say n}; say e", "done", "", said="1 e")
        self.check("each a {1 2} {say $a; while {next} {say n}; say n}; say e", "done", "", said="1 2 e")
        self.check("told f {} {while {tell 1} {say n}; say n}; say [f]", "done", "", said="1")

    def test_in_a_told_command(self):
        frames = ["CODE; say n", "list [CODE]", "do {CODE}; say n", "if 1 {CODE}; say n", "while {CODE} {}; say n"]
        for frame in frames:
            for code, word, text in self.CODES:
                if word == "done":
                    self.check("told f {} {" + frame.replace("CODE", code) + "}; say e[f]", "done", "", said="e" + text)
                else:
                    ahead = ("told f {} {" + frame.replace("CODE", code) + "}",)
                    self.check("f; say n", "failed", text, said="", trail="f", ahead=ahead)
                    self.check("each a {b c} {f}; say n", "failed", text, said="", trail="f", ahead=ahead)

    def test_in_catch(self):
        for at, (code, text) in enumerate([("list b", "b"), ("fail b", "b"), ("tell b", "b"), ("stop", ""), ("next", "")]):
            self.check("catch {" + code + "}", "done", str(at), texts={})
            self.check("catch {" + code + "} a; say e", "done", "", texts={"a": text}, said="e")
            self.check("catch {do {" + code + "}; list [" + code + "]} a", "done", str(at), texts={"a": text})
        self.check("catch {tell} a", "done", "2", texts={"a": ""})
        self.check("catch {} a", "done", "0", texts={"a": ""})
        self.check("catch {nosuch; say n} a", "done", "1", texts={"a": "no command"}, said="")


class StepsTest(BothTest):
    def test_each_command_that_has_its_words_is_one(self):
        ahead = ("set n 1", "told f {} {list}")
        for source, steps, text in [
            ("", 0, ""), ("say a", 1, ""), ("say a; say b", 2, ""), ("say [list a]", 2, ""), ("f; f", 4, ""),
            ("list [list [list a]]", 3, "a"), ("list [] $n", 1, "{} 1"), ("do {say a}", 2, ""), ("do say a", 2, ""),
            ("if 1 {say a; say b}", 3, ""), ("if 0 {say a}", 1, ""), ("each a {1 2 3} {say a}", 4, ""),
            ("told f {} {say a}", 1, ""), ("catch {nosuch}", 2, "1"), ("catch {say}", 2, "1"), ("catch {say $m}", 1, "1"),
            ("catch {[}", 1, "1"), ("set n; add n; add n", 3, "3"), ("catch {f 1}", 2, "1"), ("above 0 {here}", 2, "0"),
        ]:
            self.check(source, "done", text, steps=steps, ahead=ahead)
        self.check("nosuch", "failed", "no command", steps=1)
        self.check("say", "failed", "wrong count", steps=1)
        self.check("say $n", "failed", "no name n", steps=0)
        self.check("say [fail a]", "failed", "a", steps=1)

    def test_watchers(self):
        ahead = ("set n 1; watch n read {list}; watch n {set end} {list}",)
        self.check("list $n", "done", "1", steps=2, ahead=ahead)
        self.check("set n; set n 2; end n", "done", "", steps=6, ahead=ahead)

    def test_most(self):
        three = "say a; say b; say c"
        self.check(three, "done", "", most=3, steps=3, said="a b c")
        self.check(three, "done", "", most=2000, steps=3, said="a b c")
        self.check(three, "tired", "", most=2, steps=2, said="a b")
        self.check(three, "tired", "", most=1, steps=1, said="a")
        self.check("", "done", "", most=1, steps=0)
        self.check("say a; say $n", "failed", "no name n", most=1, steps=1)
        self.check("say a; nosuch", "tired", "", most=1, steps=1)
        self.check("say a; nosuch", "failed", "no command", most=2, steps=2)
        self.check("set a [set b 1]; say a", "tired", "", most=2, steps=2, said="", texts={"a": "1", "b": "1"})
        self.check("set a [set b 1]; say a", "tired", "", most=1, steps=1, texts={"b": "1"})

    def test_most_of_rounds(self):
        # Two commands, 301 tests, 300 rounds.
        source = "set i 0; while {less $i 300} {add i}"
        self.check(source, "done", "", most=603, steps=603, texts={"i": "300"})
        self.check(source, "tired", "", most=602, steps=602, texts={"i": "300"})
        self.check(source, "tired", "", steps=400, texts={"i": "199"})
        self.check("while {list 1} {}", "tired", "", steps=400)
        self.check("while {list 1} {}", "tired", "", most=2000, steps=2000)

    def test_it_is_400_where_nothing_is_told(self):
        for way in ("plain", "led"):
            land = self.land()
            self.assertEqual(land.say("each a {" + "b " * 80 + "} {list; list; list; list; list}", way=way), ("tired", ""))
            self.assertEqual(land.steps(), 400)

    def test_tired_is_not_caught(self):
        self.check("catch {say a; say b; say c} n; say d", "tired", "", most=3, steps=3, said="a b")
        self.check("told f {} {say a; say b}; f", "tired", "", most=3, steps=3, said="a")
        self.check("watch n set {list}; set n 1; say a", "tired", "", most=2, steps=2, said="", texts={"n": "1"})


def nested(head, inner, tail, many):
    """So many scripts within one another, of one kind."""
    return head * many + inner + tail * many


def chain(many):
    """Names of which each one, when it is set, has the next one lengthened."""
    letters = "abcdefghijklmnopqrstuvwxyz"
    return ["watch " + letters[at] + " set {put " + letters[at + 1] + "}" for at in range(many)]


class DeepTest(BothTest):
    KINDS = [("do {", "}"), ("if 1 {", "}"), ("if 0 {} {", "}"), ("above 0 {", "}"), ("above top {", "}"), ("catch {", "}"),
             ("while {list 1} {", "; stop}"), ("while {", "; list 0} {}"), ("each z a {", "}")]

    def test_twenty_four_scripts_and_the_twenty_fifth(self):
        for head, tail in self.KINDS:
            text = "0" if head == "catch {" else ""
            self.check(nested(head, "say a", tail, 23), "done", text, said="a")
            self.check(nested(head, "say a", tail, 24), "deep", "", said="")

    def test_the_steps_that_were_done(self):
        self.check(nested("do {", "", "}", 24), "deep", "", steps=24)
        self.check(nested("do {", "", "}", 23), "done", "", steps=23)
        self.check(nested("while {", "list 0", "; list 0} {}", 24), "deep", "", steps=24)

    def test_told_commands(self):
        letters = "abcdefghijklmnopqrstuvwx"
        land = ["told " + letters[at] + " {} {" + letters[at + 1] + "}" for at in range(23)]
        self.check("a; say b", "deep", "", ahead=land + ["told x {} {say c}"], steps=24, said="")
        self.check("b; say b", "done", "", ahead=land + ["told x {} {say c}"], steps=25, said="c b")
        self.check("told f {n} {f [add n]}; f 1", "deep", "", steps=46)

    def test_put_ins(self):
        def source(many):
            return nested("list [", "do {" + nested("list [", "list a", "]", many) + "}", "]", 12)
        self.check(source(10), "done", "a")
        self.check(source(11), "deep", "")

    def test_watchers(self):
        self.check("set b 1; say a", "done", "", ahead=chain(24), steps=25, said="a")
        land = self.check("set a 1; say a", "deep", "", ahead=chain(24), steps=24, said="")
        self.assertEqual(land.names(), list("abcdefghijklmnopqrstuvwx"))
        self.assertEqual(land.text("x"), "w set")
        self.check("do {set b 1}", "deep", "", ahead=chain(24), steps=24)

    def test_a_watcher_that_would_be_too_deep_is_no_step(self):
        self.check("set a 1", "deep", "", ahead=chain(24), most=24, steps=24)
        self.check("set a 1", "tired", "", ahead=chain(24), most=23, steps=23)
        self.check("set b 1", "done", "1", ahead=chain(24), most=24, steps=24)
        self.check("set b 1", "tired", "", ahead=chain(24), most=23, steps=23)
        self.check(nested("do {", "set k 1", "}", 23), "deep", "", ahead=("watch k set list",), most=24, steps=24)
        self.check(nested("do {", "say $k", "}", 23), "deep", "", ahead=("set k 1; watch k read list",), most=23, steps=23)
        self.check(nested("do {", "do {say a}", "}", 23), "tired", "", most=23, steps=23)
        self.check(nested("do {", "do {say a}", "}", 23), "deep", "", most=24, steps=24)

    def test_silent_watchers_do_not_count(self):
        self.check(nested("do {", "set k 1", "}", 22), "done", "1", ahead=("watch k set {set}",), texts={"k": "set"})

    def test_it_is_not_caught_and_leaves_what_was_done(self):
        self.check("set k 1; say a; catch {" + nested("do {", "", "}", 23) + "} n; say b", "deep", "", said="a",
                   texts={"k": "1"})
        self.check("told f {} {above top {add k}; f}; f", "deep", "", ahead=("set k 0",), texts={"k": "22"})

    def test_it_goes_ahead_of_a_bad_script(self):
        for head, tail in self.KINDS:
            bad = head + "[" + tail
            fault = self.check(nested(head, bad, tail, 22), "done" if head == "catch {" else "failed",
                               "0" if head == "catch {" else "bad script")
            self.assertEqual(fault.said(), [])
            self.check(nested(head, bad, tail, 23), "deep", "")

    def test_a_name_is_set_ahead_of_the_script_that_is_too_deep(self):
        self.check(nested("do {", "each k {a b} {say c}", "}", 23), "deep", "", texts={"k": "a"})

    def test_what_goes_ahead_of_it(self):
        for inner, fault in [("do list $x", "too long"), ("if a {}", "no number"), ("above 1 {}", "no room"),
                             ("catch {} A", "bad name"), ("each A {} {}", "bad name"), ("while {}", "wrong count"),
                             ("f 1", "wrong count")]:
            self.check(nested("do {", inner, "}", 23), "failed", fault, ahead=LONG + ("told f {} {}",))
        self.check(nested("do {", "each k {} {}", "}", 23), "done", "")
        self.check(nested("do {", "if 0 {}", "}", 23), "done", "")
        self.check(nested("do {", "f", "}", 23), "deep", "", ahead=("told f {} {}",))


class BadScriptTest(BothTest):
    WRONG = ["[", "\"a", "a $", "{a}b", "a \\", "say a; [", "$ABC"]

    def test_where_it_is_run(self):
        frames = ["do W", "if 1 W", "if 0 {} W", "above 0 W", "while W {}", "while {list 1} W", "each k {a b} W"]
        for wrong in self.WRONG:
            word = list_text([wrong])
            for frame in frames:
                land = self.check("say b; " + frame.replace("W", word) + "; say c", "failed", "bad script", said="b")
                self.assertEqual(land.names(), ["k"] if "k" in frame else [])
            self.check("catch " + word + " k", "done", "1", texts={"k": "bad script"}, said="")
            self.check("told f {} " + word + "; say b; f; say c", "failed", "bad script", said="b", trail="f")
            self.check("told f {} " + word + "; catch {f}", "done", "1")

    def test_where_it_is_not_run(self):
        self.check_done([("if 0 \\[", ""), ("if 1 {list a} \\[", "a"), ("if 0 \\[ {list a}", "a"), ("told f {} \\[", ""),
                         ("while {list 0} \\[", ""), ("each k {} \\[", "")])

    def test_a_script_of_what_was_put_in(self):
        self.check("do $k", "done", "b", ahead=("set k {list b}",))
        self.check("do $k$k", "done", "b", ahead=("set k {list b;}",))
        self.check("do \"list \\\"$k\\\"\"", "failed", "bad script", ahead=("set k {a\"b}",))


class OwnNamesTest(BothTest):
    def test_the_own_commands(self):
        self.assertEqual(self.land().commands(), sorted(OWN))
        self.assertEqual(len(OWN), 35)


if __name__ == "__main__":
    unittest.main()
