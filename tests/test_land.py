"""Lands: how they are said to, their deeds, twins, and what they tell of themselves."""

import unittest
from unittest import mock

from both import OWN, WAYS, BothTest, deeds, facts
from wordrooms import land as lands
from wordrooms.errors import BadCount, BadScript, BadText, BadWay, NoName, Nothing
from wordrooms.land import Land, Run
from wordrooms.pages import page


class FirstTest(BothTest):
    def test_a_new_land(self):
        land = Land()
        self.assertEqual((land.steps(), land.trail(), land.said(), land.names()), (0, [], [], []))
        self.assertEqual((land.commands(), land.done(), len(land)), (OWN, [], 0))
        self.assertEqual(repr(land), "Land(0 names, 35 commands)")

    def test_classes_are_defined_in_their_file(self):
        self.assertEqual((Land.__module__, Run.__module__), ("wordrooms.land", "wordrooms.land"))
        for word in "say steps trail said names text commands places body undo redo done twin run __eq__ __len__ __repr__".split():
            self.assertIn(word, Land.__dict__)
        for word in "go word text steps trail said left".split():
            self.assertIn(word, Run.__dict__)
        self.assertEqual(lands.STEPS, 400)

    def test_lands_made_apart(self):
        first, second = Land(), Land()
        self.say(first, "set n 1; say a; rename list {}; watch n set say")
        self.assertEqual(facts(second), facts(Land()))
        self.assertEqual(deeds(second), deeds(Land()))


class SayTest(BothTest):
    def test_what_it_tells(self):
        for source, told in [("", ("done", "")), ("list a", ("done", "a")), ("tell a; fail b", ("done", "a")),
                             ("fail a", ("failed", "a")), ("stop", ("failed", "stray stop")), ("next", ("failed", "stray next")),
                             ("nosuch", ("failed", "no command")), ("while {list 1} {}", ("tired", "")),
                             ("told f {} {f}; f", ("deep", ""))]:
            for way in WAYS:
                land = Land()
                found = land.say(source, way=way)
                self.assertEqual(found, told)
                self.assertIs(type(found), tuple)
                self.assertEqual((len(land), land.done()), (1, [source]))

    def test_by_name(self):
        land = Land()
        self.assertEqual(land.say(source="list a", way="led", most=1), ("done", "a"))
        self.assertEqual(land.say("list a", most=1), ("done", "a"))
        self.assertRaises(TypeError, land.say, "list a", "led")

    def test_most(self):
        for way in WAYS:
            land = Land()
            for most in (0, -1, 2001, 10 ** 19):
                self.assertRaises(BadCount, land.say, "list a", way=way, most=most)
            self.assertEqual(land.say("list a", way=way, most=1), ("done", "a"))
            self.assertEqual(land.say("list a", way=way, most=2000), ("done", "a"))

    def test_each_way_is_one_of_its_own(self):
        for way, used, other in (("plain", "run_plain", "run_led"), ("led", "run_led", "run_plain")):
            with mock.patch("wordrooms.land." + other, side_effect=AssertionError):
                self.assertEqual(Land().say("do {list a}", way=way), ("done", "a"))
            with mock.patch("wordrooms.land." + used, side_effect=ZeroDivisionError):
                self.assertRaises(ZeroDivisionError, Land().say, "do {list a}", way=way)

    def test_way(self):
        for way in ("", "Plain", "plain ", "LED", "both"):
            self.assertRaises(BadWay, Land().say, "list a", way=way)

    def test_of_several_refusals_the_first(self):
        land = Land()
        long = "a" * 1000 + "["
        for source, way, most, error in [(long, "other", 0, BadText), ("[", "other", 0, BadScript), ("a", "other", 0, BadWay),
                                         ("a", "led", 0, BadCount), (long, "led", 1, BadText), ("[", "plain", 2001, BadScript)]:
            self.assertRaises(error, land.say, source, way=way, most=most)
        self.assertRaises(BadText, land.run, long, most=0)
        self.assertRaises(BadScript, land.run, "[", most=0)
        self.assertRaises(BadCount, land.run, "a", most=0)

    def test_a_bad_script_s_place(self):
        for source, place in [("a [", 2), ("a; {b}c", 6), ("a \\", 2), ("a $", 2), ("\"", 0)]:
            for way in WAYS:
                with self.assertRaises(BadScript) as caught:
                    Land().say(source, way=way)
                self.assertEqual(caught.exception.place, place)

    def test_1000_signs(self):
        for way in WAYS:
            self.assertEqual(Land().say("list " + "a" * 995, way=way), ("done", "a" * 995))
            self.assertRaises(BadText, Land().say, "list " + "a" * 996, way=way)

    def test_what_is_refused_is_no_deed_and_changes_nothing(self):
        land = self.land("set n 1; say a", "told f {} {fail b}")
        self.say(land, "f")
        land.say("set n 2")
        land.undo()
        before = (facts(land), deeds(land))
        for way in WAYS:
            for source, most in [("[", 400), ("a" * 1001, 400), ("set n 3; {", 400), ("set n 3", 0)]:
                self.assertRaises(ValueError, land.say, source, way=way, most=most)
                self.assertEqual((facts(land), deeds(land)), before)
        self.assertRaises(BadWay, land.say, "set n 3", way="")
        self.assertEqual((facts(land), deeds(land)), before)
        self.assertEqual(land.redo(), "set n 2")

    def test_what_was_done_stays_however_it_ends(self):
        for tail, word in [("fail a", "failed"), ("stop", "failed"), ("while {list 1} {}", "tired"), ("f", "deep"), ("tell", "done")]:
            land = self.land("told f {} {f}")
            self.assertEqual(self.say(land, "set n 1; say b; told g {} {}; " + tail)[0], word)
            self.assertEqual((land.text("n"), land.said(), land.body("g"), len(land)), ("1", ["b"], "", 2))


class AskTest(BothTest):
    def test_texts_and_names(self):
        land = self.land("set n {a b}; set m {}; link 0 n k; link 0 z y; watch x set list")
        self.assertEqual(land.names(), ["k", "m", "n"])
        self.assertEqual([land.text("n"), land.text(name="m"), land.text("k")], ["a b", "", "a b"])
        for name in ("z", "y", "x", "", "N", "a b", "a" * 1001):
            self.assertRaises(NoName, land.text, name)
        self.assertEqual(repr(land), "Land(3 names, 35 commands)")

    def test_no_watcher_speaks(self):
        land = self.land("set n 1; watch n {read set end} {say}; told see {a b} {say $a}; silence n; watch n read see")
        before = facts(land)
        land.text("n")
        self.assertRaises(NoName, land.text, "m")
        self.assertEqual(facts(land), before)
        self.assertEqual(land.said(), [])

    def test_commands(self):
        land = self.land("told zz {} {}; told aa {} {}; rename list b; rename say {}")
        self.assertEqual(land.commands(), sorted([name for name in OWN if name not in ("list", "say")] + ["zz", "aa", "b"]))
        self.assertEqual(repr(land), "Land(0 names, 36 commands)")
        self.assertIsNone(land.body("b"))
        self.assertIsNone(land.places("b"))

    def test_said(self):
        land = self.land("say a; say {b c}", "say {}")
        self.assertEqual(land.said(), ["a", "b c", ""])

    def test_lists_that_were_told_and_then_changed(self):
        land = self.land("set n 1; say a; told f {a b} {fail a}")
        self.say(land, "f 1 2")
        before = (facts(land), deeds(land))
        for told in (land.said(), land.names(), land.commands(), land.done(), land.trail(), land.places("f")):
            self.assertIs(type(told), list)
            self.assertTrue(told)
            told.append("z")
            del told[0]
        self.assertEqual((facts(land), deeds(land)), before)
        run = land.run("say b; f 1 2")
        run.go(5)
        for told in (run.said(), run.trail()):
            told.append("z")
        self.assertEqual((run.said(), run.trail()), (["a", "b"], ["f"]))

    def test_asking_changes_nothing(self):
        land = self.land("set n 1; watch n read {say}; say a")
        land.say("set n 2")
        land.undo()
        before = (facts(land), deeds(land))
        land.twin()
        land.run("set n 3").go(9)
        self.assertTrue(land == land.twin())
        self.assertEqual((facts(land), deeds(land)), before)
        self.assertEqual(land.redo(), "set n 2")


class DeedsTest(BothTest):
    def test_undo_takes_all_back(self):
        for source in ["set n 2", "end n", "set m 1", "link 0 n m", "watch n set list", "silence n", "say b", "told g {} {}",
                       "told f {a} {list c}", "rename f g", "rename list {}", "rename list b", "set n 2; fail a", "put n a; say c",
                       "watch m read list; silence k", "while {list 1} {add n}", "told f {} {add n; f}; f", ""]:
            for way in WAYS:
                land = self.land("set n 1; set k 0; say a; watch n read list; watch k set list; told f {} {list b}; link 0 n l")
                before, first = facts(land), land.twin()
                land.say(source, way=way)
                behind, steps, trail = facts(land), land.steps(), land.trail()
                self.assertEqual(land.undo(), source)
                self.assertEqual(facts(land), before)
                self.assertTrue(land == first)
                self.assertEqual((land.steps(), land.trail(), len(land)), (steps, trail, 1))
                self.assertEqual(land.redo(), source)
                self.assertEqual(facts(land), behind)
                self.assertEqual((land.steps(), land.trail(), len(land)), (steps, trail, 2))

    def test_several(self):
        land = self.land("set n 1", "set n 2", "set n 3")
        self.assertEqual(land.done(), ["set n 1", "set n 2", "set n 3"])
        self.assertEqual([land.undo(), land.text("n"), land.undo(), land.text("n")], ["set n 3", "2", "set n 2", "1"])
        self.assertEqual((land.done(), len(land)), (["set n 1"], 1))
        self.assertEqual([land.redo(), land.text("n"), land.redo(), land.text("n")], ["set n 2", "2", "set n 3", "3"])
        self.assertRaises(Nothing, land.redo)
        self.assertEqual([land.undo() for _ in range(3)], ["set n 3", "set n 2", "set n 1"])
        self.assertRaises(Nothing, land.undo)
        self.assertEqual((land.names(), land.done(), len(land)), ([], [], 0))
        self.assertTrue(land == Land())
        self.assertEqual([land.redo(), land.redo(), land.undo(), land.redo()], ["set n 1", "set n 2", "set n 2", "set n 2"])
        self.assertEqual(land.text("n"), "2")

    def test_another_deed_ends_what_could_be_done_again(self):
        land = self.land("set n 1", "set n 2")
        land.undo()
        self.say(land, "set n 5")
        self.assertRaises(Nothing, land.redo)
        self.assertEqual((land.text("n"), land.done()), ("5", ["set n 1", "set n 5"]))
        self.assertEqual([land.undo(), land.text("n"), land.undo()], ["set n 5", "1", "set n 1"])
        self.assertRaises(Nothing, land.undo)
        self.say(land, "fail a")
        self.assertRaises(Nothing, land.redo)

    def test_deeds_that_fail_and_empty_ones(self):
        land = Land()
        for source in ("fail a", "", "while {list 1} {}", "list $n"):
            land.say(source)
        self.assertEqual((land.done(), len(land)), (["fail a", "", "while {list 1} {}", "list $n"], 4))
        self.assertEqual(land.undo(), "list $n")

    def test_nothing_changes_where_there_is_nothing(self):
        land = Land()
        self.assertRaises(Nothing, land.undo)
        self.assertRaises(Nothing, land.redo)
        self.assertEqual((facts(land), deeds(land)), (facts(Land()), deeds(Land())))

    def test_what_is_done_again_is_what_was_done(self):
        land = Land()
        land.say("set n 1; while {list 1} {add n}", most=21)
        self.assertEqual((land.text("n"), land.steps()), ("10", 21))
        land.undo()
        land.redo()
        self.assertEqual((land.text("n"), land.steps()), ("10", 21))

    def test_steps_and_trail(self):
        land = self.land("told f {} {fail a}", "list b; list c")
        self.assertEqual(land.steps(), 2)
        land.undo()
        self.assertEqual(land.steps(), 2)
        self.say(land, "f")
        self.assertEqual((land.steps(), land.trail()), (2, ["f"]))
        land.undo()
        land.undo()
        self.assertEqual((land.steps(), land.trail()), (2, ["f"]))
        self.say(land, "")
        self.assertEqual((land.steps(), land.trail()), (0, []))

    def test_what_is_taken_back_can_be_gone_on_from(self):
        land = self.land("put n a", "put n b")
        land.undo()
        self.say(land, "put n c")
        self.say(land, "put n d")
        land.undo()
        self.assertEqual(land.text("n"), "a c")
        land.redo()
        self.say(land, "put n e")
        self.assertEqual(land.text("n"), "a c d e")
        land.undo()
        self.assertEqual(land.text("n"), "a c d")


class TwinTest(BothTest):
    def test_it_has_all(self):
        land = self.land("set n 1; say a; link 0 n m; watch n set list; told f {} {fail b}", "set n 2", "set n 3")
        self.say(land, "f")
        land.undo()
        land.undo()
        twin = land.twin()
        self.assertIsInstance(twin, Land)
        self.assertEqual((facts(twin), deeds(twin)), (facts(land), deeds(land)))
        self.assertEqual((twin.steps(), twin.trail()), (2, ["f"]))
        self.assertEqual([twin.redo(), twin.redo(), twin.text("n")], ["set n 3", "f", "3"])
        self.assertEqual([twin.undo() for _ in range(4)][-1][:7], "set n 1")
        self.assertEqual((land.text("n"), len(land)), ("2", 2))
        self.assertEqual([land.undo(), land.redo(), land.redo(), land.text("n")], ["set n 2", "set n 2", "set n 3", "3"])

    def test_it_goes_its_own_way(self):
        for first, second in ((0, 1), (1, 0)):
            land = self.land("set n 1; say a; link 0 n m; watch n set list; told f {} {}")
            both = [land, land.twin()]
            self.say(both[first], "set m 2; say b; silence n; rename f g; rename list {}; link 0 n k; watch j read say")
            self.assertEqual((both[second].text("n"), both[second].said(), len(both[second])), ("1", ["a"], 1))
            self.assertEqual(facts(both[second]), facts(self.land("set n 1; say a; link 0 n m; watch n set list; told f {} {}")))
            self.say(both[second], "add n 5")
            self.assertEqual((both[first].text("n"), both[second].text("m")), ("2", "6"))

    def test_both_go_on_from_what_they_took_back(self):
        land = self.land("put n a; link 0 n m", "put n b", "put n c")
        twin = land.twin()
        for one, word in ((land, "d"), (twin, "e")):
            one.undo()
            one.undo()
            self.say(one, "put m " + word)
        self.assertEqual((land.text("n"), twin.text("n")), ("a d", "a e"))
        self.assertEqual([land.undo(), twin.undo(), land.text("m"), twin.text("m")], ["put m d", "put m e", "a", "a"])


class EqualTest(BothTest):
    def test_what_counts(self):
        base = ("set n 1; told f {a {b x}} {list a}; link 0 n m; watch n {set read} {put row}; watch n end list",)
        land = self.land(*base)
        for more in ["set n 2", "end n", "set k 1", "silence n", "watch n set list", "told f {a {b y}} {list a}",
                     "told f {a {b x}} {list b}", "told f a {list a}", "told g {} {}", "rename f g", "rename list {}", "rename list b",
                     "link 0 n k", "link 0 z y", "watch k set list", "silence n; watch n end list; watch n {set read} {put row}",
                     "silence n; watch n {read set} {put row}; watch n end list", "told list others {}"]:
            other = self.land(*base + (more,))
            self.assertFalse(land == other, more)
            self.assertTrue(land != other, more)
            other.undo()
            self.assertTrue(land == other, more)
        self.assertFalse(self.land("link 0 n m; link 0 k l") == self.land("link 0 n m; link 0 n l"))
        self.assertFalse(self.land("set n 1; link 0 n m") == self.land("set n 1; set m 1"))

    def test_what_does_not_count(self):
        land = self.land("set n 1; set m 2; told f {{a  {x}}} {}; rename list b; rename b list; watch n set { put  {k} }")
        other = self.land("told f {a\\ x} {}; say a; set n 1", "watch n set {put k}; set m 3; set k 5",
                          "end k; set m 2; watch k set list")
        self.assertFalse(land == other)
        self.say(other, "silence k")
        self.assertTrue(land == other)
        self.say(other, "fail a")
        self.assertTrue(land == other)
        self.assertFalse(land != other)
        self.assertEqual(page(land), page(other))
        land = self.land("set n 1; set m 2; link 0 n a; link 0 m b; watch n set list; watch m set list")
        other = self.land("watch m set list; link 0 m b; watch n set list; set m 2; link 0 n a; set n 1")
        self.assertTrue(land == other)

    def test_other_kinds_of_things(self):
        land = Land()
        for other in (None, 0, 1, "", "Land(0 names, 35 commands)", [], {}, (), object(), land.run(""), land.state, Land, page(land)):
            self.assertFalse(land == other)
            self.assertTrue(land != other)
            self.assertFalse(other == land)
        self.assertTrue(land == Land())


if __name__ == "__main__":
    unittest.main()
