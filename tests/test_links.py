"""Rooms above, links, here and names."""

import unittest

from both import BothTest
from wordrooms.pages import page

# A command that runs a script in a room of its own, and one that does so in a room below that.
ROOMS = ("told in {script others} {do $script}; told down {n script} {if $n {down [minus $n 1] $script} {do $script}}",)


class RoomsTest(BothTest):
    def test_here(self):
        self.check_done([("here", "0"), ("in here", "1"), ("in {in here}", "2"), ("in {in {in {list [here]}}}", "3"),
                         ("down 0 here", "1"), ("down 6 here", "7"), ("in {above 1 here}", "0"), ("in {above 0 here}", "1"),
                         ("in {in {above 1 {in here}}}", "2"), ("in {in {above top {in here}}}", "1")], ahead=ROOMS)

    def test_above(self):
        self.check("in {above 1 {set n 1; has n}}; set n", "done", "1", ahead=ROOMS, texts={"n": "1"})
        self.check("in {set n 1; above 0 {set n}}", "done", "1", ahead=ROOMS, texts={})
        self.check("in {set n 1; in {above 1 {set n}}}", "done", "1", ahead=ROOMS)
        self.check("in {set n 1; in {above 2 {set n 2}; above 1 {set n}}}", "done", "1", ahead=ROOMS, texts={"n": "2"})
        self.check("in {in {in {above top {set n 3}}}}", "done", "3", ahead=ROOMS, texts={"n": "3"})
        self.check("above top {set n 4}", "done", "4", texts={"n": "4"})
        self.check("above 0 {set n 4; list a}", "done", "a", texts={"n": "4"})

    def test_above_is_that_in_which_it_was_called(self):
        self.check("in {set n 1; above top {in {above 1 {has n}}}}", "done", "0", ahead=ROOMS)
        self.check("told up {} {above 1 {names}}; in {set n 1; up}", "done", "n others script", ahead=ROOMS)

    def test_no_room(self):
        for source in ("above 1 {}", "above -1 {}", "above 99999999999999999999 {}", "in {above 2 {}}", "in {above -1 {}}",
                       "down 3 {above 5 {}}", "above 1 \\["):
            self.check("catch {" + source + "; say a} n", "done", "1", texts={"n": "no room"}, ahead=ROOMS, said="")
        self.check("down 3 {above 4 here}", "done", "0", ahead=ROOMS)

    def test_names(self):
        self.check_done([("names", ""), ("set b 1; set a {}; set ab 2; names", "a ab b"), ("set a 1; end a; names", ""),
                         ("link 0 a b; names", ""), ("link 0 a b; set b 1; names", "a b"), ("watch a set list; names", ""),
                         ("set b 1; link 0 b a; names", "a b")])
        self.check("set b 1; in names", "done", "others script", ahead=ROOMS)
        self.check("set b 1; in {link 1 b z; link 1 c y; names}", "done", "others script z", ahead=ROOMS)


class LinkTest(BothTest):
    def test_in_one_room(self):
        ahead = ("link 0 a b",)
        self.check("set a 1; list $b", "done", "1", ahead=ahead)
        self.check("set b 1; list $a", "done", "1", ahead=ahead, texts={"a": "1", "b": "1"})
        self.check("set b 1; end a; has b", "done", "0", ahead=ahead)
        self.check("set a 1; end b; has a", "done", "0", ahead=ahead)
        self.check("set a 1; link 0 a b; add b; set a", "done", "2")
        self.check("list $b", "failed", "no name b", ahead=ahead)
        self.check("link top a b; set b 1; set a", "done", "1")

    def test_to_a_room_above(self):
        self.check("set n 1; in {link 1 n k; add k; list [set k] [has n]}", "done", "2 0", ahead=ROOMS, texts={"n": "2"})
        self.check("in {link 1 n k; set k 1}; set n", "done", "1", ahead=ROOMS, texts={"n": "1"})
        self.check("set n 1; in {link top n n; add n}; set n", "done", "2", ahead=ROOMS)
        self.check("set n 1; in {in {link 2 n k; end k}}; has n", "done", "0", ahead=ROOMS)
        self.check("in {set n 1; in {link 1 n k; add k}; set n}", "done", "2", ahead=ROOMS, texts={})
        self.check("told swap {a b} {link 1 $a x; link 1 $b y; set z $x; set x $y; set y $z}; set m 1; set n 2; swap m n", "done",
                   "1", texts={"m": "2", "n": "1"})

    def test_it_goes_with_its_room(self):
        self.check("set n 1; told f {} {link top n k; list $k}; f; f; has k", "done", "0", texts={"n": "1"})

    def test_from_a_room_above(self):
        self.check("in {above 1 {link 0 n k}}; set k 1; set n", "done", "1", ahead=ROOMS, texts={"n": "1", "k": "1"})

    def test_links_to_links(self):
        self.check("link 0 a b; link 0 b c; set c 1; set a", "done", "1", texts={"a": "1", "b": "1", "c": "1"})
        self.check("link 0 a b; link 0 z a; set b 1; set z", "done", "1", texts={"a": "1", "b": "1", "z": "1"})
        self.check("link 0 a b; link 0 b c; link 0 z a; end c", "failed", "no name c")
        self.check("set n 1; in {link 1 n k; in {link 1 k j; set j 2}}; set n", "done", "2", ahead=ROOMS)
        self.check("in {link 1 n k; in {link 1 k j; above top {link 0 m n}; set j 2}}; set m", "done", "2", ahead=ROOMS,
                   texts={"m": "2", "n": "2"})

    def test_a_link_to_a_link_leads_to_the_end(self):
        # c leads to a, not to b: what b would have been made of later doesn't count.
        land = self.land("link 0 a b; link 0 b c")
        self.assertIn("{link b a} {link c a}", page(land))
        land = self.land("link 0 a b; link 0 z a")
        self.assertIn("{link a z} {link b a}", page(land))

    def test_taken(self):
        self.check_failed([("set b 1; link 0 a b", "taken"), ("link 0 a b; link 0 c b", "taken"), ("link 0 a b; link 0 a b", "taken"),
                           ("set b 1; link 0 b b", "taken"), ("link 0 a b; set a 1; link 0 c b", "taken"),
                           ("link 0 a b; link 0 b b", "taken")])
        self.check("set b 1; end b; link 0 a b; set a 2; set b", "done", "2")
        self.check("set k 1; in {link 1 n k; set k}", "failed", "no name k", ahead=ROOMS, trail="in")

    def test_own_name(self):
        self.check_failed([("link 0 a a", "own name"), ("link top a a", "own name"), ("link 0 a b; link 0 b a", "own name"),
                           ("link 0 a b; link 0 b c; link 0 c a", "own name")])
        self.check("in {link 1 a a; set a 1}; set a", "done", "1", ahead=ROOMS)
        self.check("in {link 0 a a}", "failed", "own name", ahead=ROOMS, trail="in")
        self.check("in {link 1 a b; above 1 {link 0 b a}; set b 1}; set a", "done", "1", ahead=ROOMS)

    def test_faults_in_their_order(self):
        self.check_failed([
            ("link 0 a", "wrong count"), ("link b A B", "no number"), ("link 5 A B", "bad name"), ("link 5 a B", "bad name"),
            ("link 5 a a", "no room"), ("link -1 a b", "no room"), ("link 1 a n", "no room"), ("link 0 n n", "taken"),
            ("link 0 a n", "taken"), ("link 0 a a", "own name"),
        ], ahead=("set n 1",))

    def test_the_last_name_s_own_watchers_go(self):
        ahead = ("watch b set {put k}; link 0 a b",)
        self.check("set b 1", "done", "1", ahead=ahead, texts={"a": "1", "b": "1"})
        self.check("watch a set {put k}; set b 1; set a 2", "done", "2", ahead=ahead, texts={"a": "2", "b": "2", "k": "b set a set"})
        self.check("watch b set {put k}; set a 1; silence b; set a 2", "done", "2", ahead=ahead,
                   texts={"a": "2", "b": "2", "k": "a set"})
        land = self.check("watch b set list; link 0 b b", "failed", "own name")
        self.assertIn("watch b", page(land))

    def test_the_first_name_s_watchers_stay(self):
        self.check("watch a set {put k}; link 0 a b; set b 1", "done", "1", texts={"a": "1", "b": "1", "k": "b set"})

    def test_a_watcher_of_a_link_runs_where_it_was_reached(self):
        ahead = ROOMS + ("told w {n t} {above 1 {put seen a}}", "watch n set w")
        self.check("in {link 1 n k; set k 1; list $seen}", "done", "a", ahead=ahead, texts={"n": "1"})
        self.check("watch n {read set end} {put log}; in {link top n k; set k 1; list $k; end k; set log}", "done",
                   "k set k read k end", ahead=ROOMS, texts={})
        self.check("watch n {read set end} {put log}; in {link top n k; above top {set n 1}; list $k}; set log", "done",
                   "n set", ahead=ROOMS, texts={"n": "1", "log": "n set"})


if __name__ == "__main__":
    unittest.main()
