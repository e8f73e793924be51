"""What is handed to the own commands, and those that make a text and touch nothing."""

import unittest

from both import OWN, BothTest

# Each own command with what is handed to it, as the document tells.
HANDED = {
    "set": "NAME TEXT?", "end": "NAME", "has": "NAME", "add": "NAME N?", "put": "NAME WORD..",
    "sum": "N..", "times": "N..", "minus": "N N", "rest": "N N", "less": "N N", "same": "TEXT TEXT", "not": "N",
    "list": "WORD..", "many": "LIST", "at": "LIST N", "cut": "LIST N N", "join": "LIST..",
    "if": "N SCRIPT SCRIPT?", "while": "SCRIPT SCRIPT", "each": "NAME LIST SCRIPT", "stop": "", "next": "",
    "tell": "TEXT?", "fail": "TEXT", "catch": "SCRIPT NAME?", "do": "SCRIPT WORD..", "told": "NAME LIST SCRIPT",
    "rename": "NAME TEXT", "above": "ROOM SCRIPT", "link": "ROOM NAME NAME", "watch": "NAME LIST LIST",
    "silence": "NAME", "say": "TEXT", "here": "", "names": "",
}
# A word of each kind that can be of a wrong one, and its fault.
WRONG = {"NAME": ("A", "bad name"), "N": ("b", "no number"), "LIST": ("\\{", "no list"), "ROOM": ("b", "no number")}
RIGHT = {"NAME": "b", "N": "1", "LIST": "{b c}", "ROOM": "0", "TEXT": "b", "WORD": "b", "SCRIPT": "{}"}
WRONG_NAMES = ("{}", "A", "aB", "a1", "1", "abcdefghi", "{a b}", "\\n", "a-", "top1", "\\{")
WRONG_NUMBERS = ("{}", "-", "-0", "007", "00", "+1", "{ 1}", "{1 }", "1\\n", "1a", "a", "--1", "-01", "1.0", "1-", "{1 2}",
                 "123456789012345678901", "-123456789012345678901", "0x1", "1e3", "100000000000000000000")
WRONG_LISTS = ("\\{", "{{a}b}", "a\\\\", "{{a}{b}}", "\"{ a\"", "a\\ \\{b")


class HandedTest(BothTest):
    def kinds(self, own):
        return HANDED[own].split()

    def test_all_are_here(self):
        self.assertEqual(sorted(HANDED), OWN)

    def test_too_few(self):
        for own in OWN:
            least = len([kind for kind in self.kinds(own) if kind[-1] not in ".?"])
            for many in range(least):
                self.check(own + " b" * many, "failed", "wrong count", steps=1)
                self.check(own + " \\{" * many, "failed", "wrong count", steps=1)

    def test_too_many(self):
        for own in OWN:
            if ".." not in HANDED[own]:
                for more in (1, 2, 5):
                    many = len(self.kinds(own)) + more
                    self.check(own + " b" * many, "failed", "wrong count", steps=1)
                    self.check(own + " \\{" * many, "failed", "wrong count", steps=1)

    def test_what_is_handed_over_is_looked_at_from_the_left(self):
        for own in OWN:
            kinds = [kind.rstrip("?.") for kind in self.kinds(own)]
            if ".." in HANDED[own]:
                kinds = kinds + [kinds[-1]] * 3
            for at, kind in enumerate(kinds):
                if kind in WRONG:
                    words = [RIGHT[other] for other in kinds[:at]]
                    words += [WRONG.get(other, ("\\[", ""))[0] for other in kinds[at:]]
                    land = self.check(own + " " + " ".join(words), "failed", WRONG[kind][1], steps=1, said="", texts={})
                    self.assertEqual(land.commands(), OWN)

    def test_each_wrong_name(self):
        for own in OWN:
            kinds = [kind.rstrip("?.") for kind in self.kinds(own)]
            for at, kind in enumerate(kinds):
                for wrong in WRONG_NAMES:
                    if kind == "NAME":
                        words = [RIGHT[other] for other in kinds]
                        words[at] = wrong
                        self.check(own + " " + " ".join(words), "failed", "bad name", steps=1, texts={})

    def test_each_wrong_number(self):
        for own in OWN:
            kinds = [kind.rstrip("?.") for kind in self.kinds(own)]
            for at, kind in enumerate(kinds):
                for wrong in WRONG_NUMBERS:
                    if kind in ("N", "ROOM"):
                        words = [RIGHT[other] for other in kinds]
                        words[at] = wrong
                        self.check(own + " " + " ".join(words), "failed", "no number", steps=1, texts={})

    def test_each_wrong_list(self):
        for own in OWN:
            kinds = [kind.rstrip("?.") for kind in self.kinds(own)]
            for at, kind in enumerate(kinds):
                for wrong in WRONG_LISTS:
                    if kind == "LIST":
                        words = [RIGHT[other] for other in kinds]
                        words[at] = wrong
                        self.check(own + " " + " ".join(words), "failed", "no list", steps=1, texts={})

    def test_top_is_a_number_for_rooms_alone(self):
        self.check("if top {}", "failed", "no number")
        self.check("sum top", "failed", "no number")
        self.check("above Top {}", "failed", "no number")

    def test_those_that_are_handed_nothing_else(self):
        self.check_done([("here", "0"), ("names", ""), ("list", ""), ("sum", "0"), ("times", "1"), ("join", "")])

    def test_what_tells_no_text_tells_the_empty_one(self):
        self.check_done([("say b", ""), ("end n", ""), ("silence n", ""), ("watch n set list", ""), ("link 0 n m", ""),
                         ("told f {} {list b}", ""), ("rename list lists", ""), ("rename list {}", ""),
                         ("while {list 0} {}", ""), ("each k {} {}", ""), ("tell", "")], ahead=("set n 1",))


GREAT = "99999999999999999999"


class NumbersTest(BothTest):
    def test_sum(self):
        self.check_done([("sum 1", "1"), ("sum 1 2", "3"), ("sum 1 2 -5 0", "-2"), ("sum 0", "0"), ("sum -7", "-7"),
                         ("sum 5 -5", "0"), ("sum 10 20 30 40", "100")])
        self.check_failed([("sum 1 b", "no number"), ("sum b 007", "no number")])

    def test_times(self):
        self.check_done([("times 3", "3"), ("times 3 4", "12"), ("times -3 4", "-12"), ("times -3 -4 1", "12"),
                         ("times 5 0", "0"), ("times 0 -5", "0"), ("times -1 0", "0")])
        self.check_failed([("times 0 b", "no number"), ("times " + GREAT + " " + GREAT + " b", "no number")])

    def test_minus(self):
        self.check_done([("minus 5 3", "2"), ("minus 3 5", "-2"), ("minus 3 3", "0"), ("minus -3 -5", "2")])

    def test_rest(self):
        self.check_done([("rest 7 3", "1"), ("rest -7 3", "2"), ("rest 6 3", "0"), ("rest -6 3", "0"), ("rest 2 3", "2"),
                         ("rest 0 1", "0"), ("rest -1 " + GREAT, "9" * 19 + "8"), ("rest 5 1", "0")])
        self.check_failed([("rest 7 0", "no rest"), ("rest 7 -3", "no rest"), ("rest 0 0", "no rest"),
                           ("rest b 0", "no number"), ("rest 7 00", "no number")])

    def test_less_same_not(self):
        self.check_done([("less 1 2", "1"), ("less 2 1", "0"), ("less 2 2", "0"), ("less -1 0", "1"), ("less 9 10", "1"),
                         ("less -2 -10", "0"), ("same a a", "1"), ("same a b", "0"), ("same {} {}", "1"), ("same 1 01", "0"),
                         ("same {a b} \"a b\"", "1"), ("same a {a }", "0"), ("not 0", "1"), ("not 1", "0"), ("not -5", "0"),
                         ("not 7", "0")])

    def test_numbers_are_written_plainly(self):
        self.check_done([("sum " + number, number) for number in ("0", "7", "10", "-1", "-10", GREAT, "-" + GREAT)])

    def test_twenty_figures_and_one_more(self):
        small = "10000000000000000000"
        self.check_done([
            ("sum " + GREAT + " 0", GREAT), ("sum " + GREAT + " 1 -1", GREAT), ("sum -" + GREAT, "-" + GREAT),
            ("sum " + small + " " + small, "20000000000000000000"), ("times " + small + " 9", "9" + "0" * 19),
            ("times " + GREAT + " -1", "-" + GREAT), ("times " + GREAT + " " + GREAT + " 0", "0"),
            ("times 0 " + GREAT + " " + GREAT, "0"), ("minus " + GREAT + " " + GREAT, "0"), ("minus -" + GREAT + " 0", "-" + GREAT),
            ("less -" + GREAT + " " + GREAT, "1"), ("not " + GREAT, "0"), ("rest " + GREAT + " 10", "9"),
        ])
        self.check_failed([
            ("sum " + GREAT + " 1", "too great"), ("sum -" + GREAT + " -1", "too great"), ("times " + small + " 10", "too great"),
            ("times -" + small + " 10", "too great"), ("minus " + GREAT + " -1", "too great"),
            ("minus -" + GREAT + " 1", "too great"), ("times " + (GREAT + " ") * 40, "too great"), ("sum 1" + "0" * 20, "no number"),
            ("sum -1" + "0" * 20, "no number"), ("sum " + "0" * 20, "no number"), ("add n", "too great"),
        ], ahead=("set n " + GREAT,))


class ListsTest(BothTest):
    def test_list(self):
        self.check_done([("list a", "a"), ("list a b", "a b"), ("list {}", "{}"), ("list {a b}", "a\\ b"),
                         ("list {a b c} {} \\{", "{a b c} {} \\{"), ("list \\n", "\\n"), ("list {a {b} c}", "{a {b} c}")])

    def test_many(self):
        self.check_done([("many {}", "0"), ("many a", "1"), ("many {a b c}", "3"), ("many { \n}", "0"),
                         ("many {{a b} {} c\\ d}", "3"), ("many {{}}", "1")])

    def test_at(self):
        ahead = ("set k {a {b c} {} \\n}",)
        self.check_done([("at $k 0", "a"), ("at $k 1", "b c"), ("at $k 2", ""), ("at $k 3", "\n")], ahead=ahead)
        self.check_failed([("at $k 4", "no place"), ("at $k -1", "no place"), ("at {} 0", "no place"),
                           ("at $k " + GREAT, "no place"), ("at \\{ b", "no list"), ("at $k b", "no number")], ahead=ahead)

    def test_cut(self):
        ahead = ("set k {a   {b c} {d}}",)
        self.check_done([("cut $k 0 3", "a b\\ c d"), ("cut $k 1 2", "b\\ c"), ("cut $k 0 0", ""), ("cut $k 3 3", ""),
                         ("cut $k 2 3", "d"), ("cut {} 0 0", ""), ("cut $k 1 1", "")], ahead=ahead)
        self.check_failed([("cut $k 0 4", "no place"), ("cut $k -1 2", "no place"), ("cut $k 2 1", "no place"),
                           ("cut $k 4 4", "no place"), ("cut {} 0 1", "no place"), ("cut {} -1 0", "no place"),
                           ("cut $k 0 b", "no number"), ("cut \\{ 9 1", "no list")], ahead=ahead)

    def test_join(self):
        self.check_done([("join a", "a"), ("join {a b} {} {c  {d e}}", "a b c d\\ e"), ("join {} {}", ""),
                         ("join {{}} a", "{} a"), ("join { a\nb }", "a b")])
        self.check_failed([("join a \\{", "no list"), ("join \\{ a", "no list")])


if __name__ == "__main__":
    unittest.main()
