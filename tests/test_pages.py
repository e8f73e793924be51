"""Pages: how lands are written, and read."""

import unittest

from both import OWN, BothTest, deeds, facts
from wordrooms import pages
from wordrooms.errors import BadPage
from wordrooms.land import Land
from wordrooms.lists import list_text, read_words
from wordrooms.pages import page, read_page

OWN_ROWS = [["own", name, name] for name in OWN]


def text_of(rows):
    return list_text([list_text(row) for row in rows])


class PageTest(BothTest):
    def check_page(self, land, rows):
        """The land's page has these rows, and is read as the same land."""
        self.assertEqual(page(land), text_of(rows))
        self.check_read(page(land), land)

    def check_read(self, text, land):
        again = read_page(text)
        self.assertIsInstance(again, Land)
        self.assertTrue(again == land)
        self.assertEqual(page(again), text)
        self.assertEqual((again.said(), deeds(again)), ([], deeds(Land())))
        told = facts(land)
        told["said"] = []
        self.assertEqual(facts(again), told)


class WrittenTest(PageTest):
    def test_a_new_land(self):
        self.check_page(Land(), OWN_ROWS)
        self.assertTrue(page(land=Land()).startswith("{own above above} {own add add} {own at at} "))

    def test_each_kind_of_row(self):
        land = self.land("told g {a others} {list $a}; told f {} {}; set n 1; set m {a b}; link 0 n k; watch n set {put row a}")
        self.check_page(land, OWN_ROWS + [
            ["told", "f", "", ""], ["told", "g", "a others", "list $a"], ["link", "k", "n"], ["text", "m", "a b"],
            ["text", "n", "1"], ["watch", "n", "set", "put row a"]])

    def test_what_was_said_and_done_is_not_there(self):
        land = self.land("say a; set n 1", "end n")
        self.check_page(land, OWN_ROWS)

    def test_renamed_own_commands(self):
        land = self.land("rename list zz; rename say aa; rename set {}; told end {} {}; rename add list")
        rows = [["own", "aa", "say"]] + [row for row in OWN_ROWS if row[1] not in ("say", "set", "end", "add", "list")]
        rows = sorted(rows + [["own", "zz", "list"], ["own", "list", "add"]], key=lambda row: row[1])
        self.check_page(land, rows + [["told", "end", "", ""]])

    def test_own_commands_that_are_no_more(self):
        land = self.land(*["rename " + name + " {}" for name in OWN if name != "rename"])
        self.check_page(land, [["own", "rename", "rename"]])
        land = self.land("told told {} {}; rename told f", "rename rename {}")
        self.check_page(land, [row for row in OWN_ROWS if row[1] not in ("told", "rename")] + [["told", "f", "", ""]])
        land = self.land("rename rename {}")
        self.assertEqual(self.say(read_page(page(land)), "rename say b"), ("failed", "no command"))

    def test_texts_and_links_are_among_one_another(self):
        land = self.land("set c 1; set a {}; link 0 c b; link 0 z d; link 0 d e; link 0 e f; set zz 2")
        self.check_page(land, OWN_ROWS + [["text", "a", ""], ["link", "b", "c"], ["text", "c", "1"], ["link", "d", "z"],
                                          ["link", "e", "z"], ["link", "f", "z"], ["text", "zz", "2"]])

    def test_links_to_links_lead_straight(self):
        land = self.land("link 0 b a; link 0 c b; link 0 d c; set d 1")
        self.check_page(land, OWN_ROWS + [["link", "a", "b"], ["link", "b", "c"], ["link", "c", "d"], ["text", "d", "1"]])

    def test_watchers(self):
        land = self.land("watch n set {put b}; watch m {end read} list; watch n {set read end} { put\n{c d e} }; watch n set {put b}")
        self.check_page(land, OWN_ROWS + [["watch", "m", "end read", "list"], ["watch", "n", "set", "put b"],
                                          ["watch", "n", "set read end", "put {c d e}"], ["watch", "n", "set", "put b"]])
        land = self.land("watch n set list; link 0 k n; watch n set {put b}; set k 1")
        self.check_page(land, OWN_ROWS + [["text", "b", "k set"], ["text", "k", "1"], ["link", "n", "k"],
                                          ["watch", "k", "set", "put b"]])

    def test_lists_are_written_anew(self):
        land = self.land("told f {a  {b   {x y}} {c {}}\n others } {list  a}; watch n { set  read } {{put} {a b}}")
        self.check_page(land, OWN_ROWS + [["told", "f", list_text(["a", "b x\\ y", "c {}", "others"]), "list  a"],
                                          ["watch", "n", "set read", "put a\\ b"]])

    def test_texts_of_all_signs(self):
        signs = "\\ \\n\\\"\\$\\[\\]\\;\\#\\{\\}\\\\'`"
        land = self.land("set n " + signs, "told f {{a x}} \"" + signs + "\"", "watch n set \"a {}\"")
        self.assertEqual(land.text("n"), " \n\"$[];#{}\\'`")
        self.check_page(land, OWN_ROWS + [["told", "f", "a\\ x", land.text("n")], ["text", "n", land.text("n")],
                                          ["watch", "n", "set", "a {}"]])

    def test_long_ones(self):
        close = "\\}" * 95
        land = self.land("set n " + close, "set n $n$n$n$n$n", "set d \"a\\\\ $n\"; set l \"put $n\"", "told f $d \"[set n]$n\"",
                         "watch n end $l; set n $n$n")
        self.assertEqual(land.places("f"), ["a " + "\\}" * 475])
        self.assertEqual(len(land.body("f")), 950)
        rows = OWN_ROWS + [["told", "f", list_text(land.places("f")), land.body("f")], ["text", "d", land.text("d")],
                           ["text", "l", land.text("l")], ["text", "n", "}" * 950], ["watch", "n", "end", list_text(["put", "}" * 475])]]
        self.assertGreater(len(rows[35][2]), 1500)
        self.check_page(land, rows)
        self.assertEqual(self.say(read_page(page(land)), "f"), ("failed", "no command"))


class ReadTest(PageTest):
    def check_wrong(self, rows, place):
        """These rows are refused for that of this number."""
        self.check_wrong_text(text_of(rows), place)

    def check_wrong_text(self, text, place):
        with self.assertRaises(BadPage, msg=text) as caught:
            read_page(text)
        self.assertEqual(caught.exception.place, place, text)

    def test_a_land_that_was_read_is_as_any_other(self):
        land = self.land("told f {a {b x}} {say $a$b}; set n 1; link 0 n m; watch n {set read} {put row}; rename list row")
        again = read_page(text=page(land))
        for source in ("f 1", "set m 5; set n", "row $n; list a", "set row"):
            self.assertEqual(self.say(again, source), self.say(land, source))
        self.assertEqual(page(again), page(land))
        self.assertEqual(again.done(), ["f 1", "set m 5; set n", "row $n; list a", "set row"])
        for _ in range(4):
            again.undo()
        self.assertRaises(LookupError, again.undo)
        self.assertEqual((again.text("m"), again.names()), ("1", ["m", "n"]))

    def test_lands_that_were_read_have_nothing_to_do_with_one_another(self):
        text = page(self.land("set n 1; watch n set {put row}"))
        first, second = read_page(text), read_page(text)
        self.say(first, "set n 2; rename list {}; silence n")
        self.assertEqual(page(second), text)
        self.assertEqual(page(first.twin()), page(first))

    def test_a_page_of_what_a_run_left(self):
        land = self.land("told f {} {link top n k; set k 5; list}")
        run = land.run("f")
        run.go(3)
        self.check_read(page(run.left()), run.left())

    def test_the_empty_text(self):
        land = read_page("")
        self.assertEqual((land.commands(), land.names(), page(land), repr(land)), ([], [], "", "Land(0 names, 0 commands)"))
        self.assertEqual(self.say(land, "list"), ("failed", "no command"))

    def test_a_page_that_ends_early(self):
        land = self.land("told g {a others} {list $a}; told f {} {}; set n 1; link 0 n k; watch n set {put row a}; watch n read list")
        rows = [list_text(row) for row in [read_words(row) for row in read_words(page(land))]]
        for many in range(len(rows)):
            text = list_text(rows[:many])
            self.assertEqual(page(read_page(text)), text)
            if many < 35:
                self.assertEqual(read_page(text).commands(), OWN[:many])

    def test_any_row_may_be_left_out(self):
        self.check_read(text_of([["told", "f", "", ""]]), self.bare("told f {} {}"))
        self.check_read(text_of([["text", "n", "1"]]), self.bare("set n 1"))
        self.check_read(text_of([["link", "n", "m"]]), self.bare("link 0 m n"))
        self.check_read(text_of([["watch", "n", "set", "a"]]), self.bare("watch n set a"))
        self.check_read(text_of([["own", "b", "list"]]), self.bare("rename list b", "b"))

    def bare(self, source, *names):
        """A land to which this was said, and that has no commands left but these and told ones."""
        land = self.land(source)
        keep = names + tuple([name for name in land.commands() if land.body(name) is not None])
        for name in land.commands():
            if name not in keep and name != "rename":
                self.say(land, "rename " + name + " {}")
        self.say(land, "rename rename {}")
        return land

    def test_no_list(self):
        for text in ("{", "{own list list} {", "{own list list}a", "\\", "{own list list} \\", "{}}", "a {b"):
            self.check_wrong_text(text, 0)

    def test_not_written_as_lists_are(self):
        good = page(self.land("set n 1"))
        for text in (" " + good, good + " ", good + "\n", good.replace("} {", "}  {", 1), good.replace("} {", "}\n{", 3),
                     "own\\ list\\ list", "{}  ", " ", "\n"):
            self.check_wrong_text(text, 0)
        self.check_wrong_text("{own list list} {text n 1} {text m {a }}  {a}", 0)

    def test_rows_that_are_no_lists_or_are_written_otherwise(self):
        for row in ("{", "own {list} list", "own list  list", " own list list", "own list list ", "own list list\n", "own list\\ ",
                    "{own} list list", "text n {1}", "text n \\a", "own list\nlist", "text n a\\ b\\ c\\ d", "text n {a b}", "own list \\"):
            self.check_wrong_text(list_text([row]), 0)
            self.check_wrong_text(list_text(["own at at", row]), 1)
            self.check_wrong_text(list_text(["own at at", row, "{"]), 1)

    def test_rows_of_no_kind(self):
        for row in ([], [""], ["a"], ["own"], ["own", "list"], ["own", "list", "list", "list"], ["told", "f", ""], ["told", "f"],
                    ["told", "f", "", "", ""], ["text", "n"], ["text", "n", "1", "2"], ["link", "n"], ["link", "n", "m", "k"],
                    ["watch", "n", "set"], ["watch", "n", "set", "a", "b"], ["Own", "list", "list"], ["said", "a"], ["names", "n", "1"],
                    ["texts", "n", "1"]):
            self.check_wrong([row], 0)
            self.check_wrong([["own", "at", "at"], row], 1)

    def test_wrong_names(self):
        for name in ("", "A", "abcdefghi", "a b", "1"):
            for row in (["own", name, "list"], ["told", name, "", ""], ["text", name, "1"], ["link", name, "m"], ["link", "a", name],
                        ["watch", name, "set", "a"]):
                self.check_wrong([["own", "at", "at"], row], 1)

    def test_own_rows(self):
        for own in ("", "nosuch", "List", "own", "text"):
            self.check_wrong([["own", "at", "at"], ["own", "b", own]], 1)
        self.check_wrong([["own", "a", "list"], ["own", "b", "list"]], 1)
        self.check_wrong([["own", "a", "list"], ["own", "a", "say"]], 1)
        self.check_wrong([["own", "b", "list"], ["own", "a", "say"]], 1)
        self.check_wrong([["own", "b", "list"], ["own", "c", "say"], ["own", "a", "at"]], 2)
        self.check_wrong(OWN_ROWS + [["own", "zz", "list"]], 35)
        self.assertEqual(read_page(text_of([["own", "at", "say"], ["own", "say", "at"]])).commands(), ["at", "say"])

    def test_told_rows(self):
        self.check_wrong([["own", "f", "list"], ["told", "f", "", ""]], 1)
        self.check_wrong([["told", "f", "", ""], ["told", "f", "", ""]], 1)
        self.check_wrong([["told", "g", "", ""], ["told", "f", "", ""]], 1)
        for places in ("A", "a a", "a\\ x b", "others others", "a  b", " a", "{", "{a}", "a\\ x\\ y", "a {b  x}", "b\\ {x}", "\\a", "a\n",
                       list_text(["a  x"]), list_text(["a {x}"]), list_text([" a"]), list_text(["{a} x"]), list_text(["a"]) + " ",
                       list_text(["a x "]), list_text(["a x", "b"]), list_text(["a x", "a"]), list_text(["a"] * 2), list_text(["a {"])):
            self.check_wrong([["own", "at", "at"], ["told", "f", places, ""]], 1)
        for places in ("", "a", "a others", "others a", "a\\ x", list_text(["a {x y z}", "b {}"]), list_text(["a", "b \\;", "others"]),
                       list_text(["others x"])):
            text = text_of([["told", "f", places, "["]])
            self.assertEqual(page(read_page(text)), text)
            self.assertEqual(list_text(read_page(text).places("f")), places)
        text = text_of([["told", "f", "", "a" * 1000]])
        self.assertEqual(page(read_page(text)), text)
        self.check_wrong([["told", "a", "", ""], ["told", "f", "", "a" * 1001]], 1)

    def test_text_rows(self):
        self.check_wrong([["text", "n", "1"], ["text", "n", "1"]], 1)
        self.check_wrong([["text", "n", "1"], ["text", "m", "1"]], 1)
        text = text_of([["text", "m", ""], ["text", "n", "}" * 1000]])
        self.assertEqual(page(read_page(text)), text)
        self.check_wrong([["text", "m", "1"], ["text", "n", "}" * 1001]], 1)

    def test_link_rows(self):
        self.check_wrong([["link", "n", "n"]], 0)
        self.check_wrong([["link", "m", "n"], ["link", "n", "m"]], 1)
        self.check_wrong([["link", "a", "b"], ["link", "b", "c"], ["link", "c", "d"], ["link", "d", "a"]], 3)
        self.check_wrong([["link", "a", "c"], ["link", "b", "a"], ["link", "c", "b"], ["link", "d", "a"]], 2)
        self.check_wrong([["link", "n", "m"], ["link", "n", "k"]], 1)
        self.check_wrong([["text", "n", "1"], ["link", "n", "k"]], 1)
        self.check_wrong([["link", "n", "k"], ["text", "n", "1"]], 1)
        self.check_wrong([["link", "n", "k"], ["link", "m", "k"]], 1)
        self.check_wrong([["link", "n", "k"], ["text", "m", "1"]], 1)
        for rows in ([["link", "a", "z"], ["link", "b", "a"], ["link", "c", "b"]], [["link", "a", "b"], ["link", "b", "c"], ["text", "c", "1"]],
                     [["text", "a", "1"], ["link", "b", "a"], ["text", "c", "1"], ["link", "d", "e"]]):
            self.assertEqual(page(read_page(text_of(rows))), text_of(rows))

    def test_watch_rows(self):
        for words in ("", "a", "set set", "read a", "set  read", " set", "{set}", "{", "set read end set", "\\set", "Set", "set\nread"):
            self.check_wrong([["own", "at", "at"], ["watch", "n", words, "a"]], 1)
        for command in ("", "{", "a  b", " a", "{a}", "a\n", "a\\", "\\a", "{a b}"):
            self.check_wrong([["own", "at", "at"], ["watch", "n", "set", command]], 1)
        self.check_wrong([["link", "n", "m"], ["watch", "n", "set", "a"]], 1)
        self.check_wrong([["watch", "n", "set", "a"], ["watch", "m", "set", "a"]], 1)
        self.check_wrong([["watch", "n", "set", "a"], ["watch", "n", "set", "a"], ["watch", "m", "set", "a"]], 2)
        for rows in ([["watch", "m", "set", "a"], ["watch", "n", "end read set", "{}"], ["watch", "n", "end", "a"], ["watch", "n", "end", "a"]],
                     [["link", "m", "n"], ["watch", "n", "set", "{a b c} d"]], [["watch", "n", "set", " ".join(["a"] * 900)]]):
            self.assertEqual(page(read_page(text_of(rows))), text_of(rows))

    def test_rows_in_a_wrong_place(self):
        rows = [["own", "at", "at"], ["told", "f", "", ""], ["text", "n", "1"], ["watch", "n", "set", "a"]]
        later = [["own", "zz", "say"], ["told", "zz", "", ""], ["text", "zz", "1"], ["link", "zz", "m"]]
        for row in later:
            kinds = ("text", "link") if row[0] in ("text", "link") else (row[0],)
            place = [other[0] in kinds for other in rows].index(True) + 1
            for many in range(len(rows) + 1):
                placed = rows[:many] + [row] + rows[many:]
                if many < place:
                    # The row itself may stand there, but what stands behind it then may not.
                    self.check_wrong(placed, many + 1)
                elif many > place:
                    self.check_wrong(placed, many)
                else:
                    self.assertEqual(page(read_page(text_of(placed))), text_of(placed))

    def test_the_first_wrong_row(self):
        self.check_wrong([["own", "at", "at"], ["told", "f", "a a", ""], ["text", "N", "1"]], 1)
        self.check_wrong([["own", "at", "at"], ["text", "n", "1"], ["text", "m", "1"], ["told", "f", "a a", ""]], 2)
        self.check_wrong_text(list_text(["own at at", "text n 1", "{", "own  b b"]), 2)

    def test_by_name_and_place(self):
        self.assertEqual((pages.page.__module__, pages.read_page.__module__), ("wordrooms.pages", "wordrooms.pages"))
        with self.assertRaises(BadPage) as caught:
            read_page(text="a")
        self.assertEqual(caught.exception.place, 0)


if __name__ == "__main__":
    unittest.main()
