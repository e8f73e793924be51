"""What the tests of running share: all that is said is said in both ways, and by a run, and told alike."""

import unittest

from wordrooms.land import Land
from wordrooms.pages import page

WAYS = ("plain", "led")
OWN = ("above add at catch cut do each end fail has here if join less link list many minus names next not put "
       "rename rest same say set silence stop sum tell times told watch while").split()


def facts(land):
    """All that a land tells of itself, but for its deeds."""
    return {
        "names": land.names(),
        "texts": [land.text(name) for name in land.names()],
        "said": land.said(),
        "commands": land.commands(),
        "places": [land.places(name) for name in land.commands()],
        "bodies": [land.body(name) for name in land.commands()],
        "shown": repr(land),
        "page": page(land),
    }


def deeds(land):
    """What a land tells of its deeds."""
    return {"steps": land.steps(), "trail": land.trail(), "done": land.done(), "many": len(land)}


class BothTest(unittest.TestCase):
    """A land is told the same in both ways, on twins, and by runs that are cut into goings."""

    maxDiff = None

    def land(self, *sources):
        """A new land to which these were said, all of them done."""
        land = Land()
        for source in sources:
            self.assertEqual(self.say(land, source)[0], "done", source)
        return land

    def say(self, land, source, most=400):
        """What the land tells: it is said to it, to a twin in the other way, and run by twins."""
        other = land.twin()
        before = facts(land)
        for many in (1, 3):
            run = land.run(source, most=most)
            while run.go(many) == "waits":
                pass
            if many == 1:
                slow = run
            else:
                fast = run
        self.assertEqual(facts(land), before, source)
        told = land.say(source, way="plain", most=most)
        self.assertEqual(other.say(source, way="led", most=most), told, source)
        self.assertEqual(facts(other), facts(land), source)
        self.assertEqual(deeds(other), deeds(land), source)
        self.assertTrue(other == land, source)
        for run in (slow, fast):
            self.assertEqual((run.word(), run.text()), told, source)
            self.assertEqual((run.steps(), run.trail()), (land.steps(), land.trail()), source)
            self.assertEqual(run.said(), land.said(), source)
            self.assertEqual(facts(run.left()), facts(land), source)
        return told

    def check(self, source, word, text="", *, ahead=(), most=400, **told):
        """Say it to a new land; steps, trail, said and names with their texts may be told, too."""
        land = self.land(*ahead)
        self.assertEqual(self.say(land, source, most), (word, text), source)
        if "steps" in told:
            self.assertEqual(land.steps(), told["steps"], source)
        if "said" in told:
            self.assertEqual(land.said(), told["said"].split(), source)
        if "texts" in told:
            self.assertEqual({name: land.text(name) for name in land.names()}, told["texts"], source)
        self.assertEqual(land.trail(), told.get("trail", "").split(), source)
        return land

    def check_done(self, table, ahead=()):
        """Each source is done with its text."""
        for source, text in table:
            self.check(source, "done", text, ahead=ahead)

    def check_failed(self, table, ahead=()):
        """Each source fails with its fault."""
        for source, fault in table:
            self.check(source, "failed", fault, ahead=ahead)
