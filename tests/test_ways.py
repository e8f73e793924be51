"""Many scripts by chance: both ways and runs tell the same, and pages of what they leave are read again."""

import random
import unittest

from both import OWN, BothTest, facts
from wordrooms.errors import BadScript
from wordrooms.land import Land
from wordrooms.pages import page, read_page
from wordrooms.scripts import parsed
from wordrooms.writer import written

NAMES = ["a", "b", "c", "d", "others"]
NUMBERS = ["0", "1", "2", "-1", "3"]
TOLD = ["f", "g", "h"]
PLACES = ["{}", "a", "{a b}", "{a {b 2}}", "{a others}", "others", "{{c x}}"]
TOUCHES = ["read", "set", "end", "{read set}", "{set end}", "{read set end}"]
WATCHERS = ["{put d}", "f", "{g 1}", "list", "{if 1}", "h", "{do}", "silence", "{f 1 2}"]


class Chance:
    """Makes scripts of the own commands and a few told ones."""

    def __init__(self, seed):
        self.chance = random.Random(seed)

    def one(self, things):
        return self.chance.choice(things)

    def word(self, deep):
        kind = self.chance.randint(0, 9)
        if kind < 3:
            return self.one(NAMES)
        if kind < 5:
            return self.one(NUMBERS)
        if kind < 7:
            return "$" + self.one(NAMES)
        if kind == 7 and deep > 0:
            return "[" + self.script(deep - 1, 2) + "]"
        return self.one(["{}", "{a b}", "\"x $a\"", "top", "{1 2 3}", "set", "\\["])

    def braced(self, deep):
        return "{" + self.script(deep - 1, 3) + "}" if deep > 0 else self.one(["{}", "{list 1}", "{add a}", "stop", "here"])

    def command(self, deep):
        name = self.one(NAMES[:4])
        number = self.one(NUMBERS)
        return self.one([
            lambda: "set " + name + " " + self.word(deep),
            lambda: "set " + name + " " + number,
            lambda: "put " + name + " " + self.word(deep),
            lambda: self.one(["add", "end", "set", "has", "put", "silence"]) + " " + name,
            lambda: "watch " + name + " " + self.one(TOUCHES) + " " + self.one(WATCHERS),
            lambda: "link " + self.one(["0", "1", "top"]) + " " + name + " " + self.one(NAMES[:4]),
            lambda: "told " + self.one(TOLD) + " " + self.one(PLACES) + " " + self.braced(deep),
            lambda: self.one(TOLD) + " " + self.word(deep),
            lambda: self.one(TOLD),
            lambda: "if " + self.word(deep) + " " + self.braced(deep) + " " + self.braced(deep),
            lambda: "while {less $" + name + " 3} {add " + name + "; " + self.script(deep - 1, 2) + "}" if deep > 0 else "here",
            lambda: "each " + name + " {1 {a b} 3} " + self.braced(deep),
            lambda: "catch " + self.braced(deep) + " " + name,
            lambda: "above " + self.one(["0", "1", "top"]) + " " + self.braced(deep),
            lambda: "do " + self.braced(deep),
            lambda: "say " + self.word(deep),
            lambda: self.one(OWN) + " " + self.word(deep) + " " + self.word(deep),
            lambda: self.one(["stop", "next", "tell " + self.word(deep), "fail x", "names", "here"]),
            lambda: "rename " + self.one(TOLD + ["list"]) + " " + self.one(TOLD + ["{}"]),
        ])()

    def script(self, deep, many):
        commands = [self.command(deep) for _ in range(self.chance.randint(1, many))]
        # Most faults are caught, so that what stands behind them is run, too.
        return "; ".join([self.one([command, "catch {" + command + "} d"]) for command in commands])


class WaysTest(BothTest):
    def test_scripts_by_chance(self):
        words = {}
        for seed in range(200):
            chance = Chance(seed)
            land = Land()
            for name in NAMES[:3]:
                land.say("set " + name + " " + chance.one(NUMBERS))
            for _ in range(6):
                source = chance.script(2, 4)
                if len(source) <= 1000:
                    word, text = self.say(land, source, chance.one([400, 400, 400, 5]))
                    words[word] = True
                    self.check_page(land)
        self.assertTrue("done" in words and "failed" in words and "tired" in words)

    def check_page(self, land):
        again = read_page(page(land))
        self.assertTrue(again == land)
        self.assertEqual(page(again), page(land))
        told = facts(land)
        told["said"] = []
        self.assertEqual(facts(again), told)

    def test_what_is_written_of_a_script_does_the_same(self):
        for seed in range(400, 500):
            source = Chance(seed).script(3, 4)
            try:
                again = written(parsed(source))
            except BadScript:
                continue
            if len(again) <= 1000:
                first, second = Land(), Land()
                self.assertEqual(first.say(source), second.say(again))
                self.assertEqual((first.steps(), first.trail(), first.said()), (second.steps(), second.trail(), second.said()))
                self.assertTrue(first == second)

    def test_each_short_script_of_turned_signs(self):
        for seed in range(3000):
            chance = random.Random(seed)
            source = "".join([chance.choice(["say", "a", " ", ";", "[", "]", "{", "}", "$", "\"", "\\", "#", "list", "\n", "set "])
                              for _ in range(chance.randint(1, 9))])
            try:
                commands = parsed(source)
            except BadScript as bad:
                for way in ("plain", "led"):
                    with self.assertRaises(BadScript) as caught:
                        Land().say(source, way=way)
                    self.assertEqual(caught.exception.place, bad.place)
            else:
                self.assertEqual(parsed(written(commands)), commands)
                self.say(Land(), source)


if __name__ == "__main__":
    unittest.main()
