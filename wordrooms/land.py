"""Lands, and the runs that are begun of them."""

from wordrooms.errors import BadCount, BadWay, NoCommand, NoName, Nothing
from wordrooms.led import Led, run_led
from wordrooms.places import place_texts
from wordrooms.plain import run_plain
from wordrooms.rooms import names_with_text, reached
from wordrooms.scripts import parsed
from wordrooms.states import Running, first_state

STEPS = 400
MOST_STEPS = 2000


def refuse_most(most):
    """Raise BadCount where not so many steps may be allowed."""
    if not 1 <= most <= MOST_STEPS:
        raise BadCount(f"not from 1 to {MOST_STEPS}")


class Land:
    """Commands, the top room with its watchers, and what was said.

    A deed is a script and the state that it is to be taken back to, or done again to. A state that was
    reached by a deed isn't changed any more, so twins can share it.
    """

    def __init__(self):
        self.state = first_state()
        self.deeds = []
        self.undone = []
        self.step_count = 0
        self.path = ()

    def say(self, source, *, way="plain", most=STEPS):
        """Run the script in the top room: how it ended, and its text."""
        commands = parsed(source)
        if way not in ("plain", "led"):
            raise BadWay("neither plain nor led")
        refuse_most(most)
        running = Running(self.state.twin(), most)
        end = run_plain(running, commands) if way == "plain" else run_led(running, commands)
        self.deeds.append((source, self.state))
        self.undone = []
        self.state = running.state
        self.step_count = running.count
        self.path = end.path
        return (end.code, end.worth)

    def steps(self):
        """How many steps the last deed did."""
        return self.step_count

    def trail(self):
        """The trail of the last deed's fault."""
        return list(self.path)

    def said(self):
        """All that was said."""
        return list(self.state.sayings)

    def names(self):
        """The names of the top room that have a text."""
        return names_with_text(self.state.top)

    def text(self, name):
        """The text of a name of the top room."""
        home, last = reached(self.state.top, name)
        if last not in home.texts:
            raise NoName(f"no name {name}")
        return home.texts[last]

    def commands(self):
        """The names of all commands."""
        return sorted(self.state.table)

    def command(self, name):
        """The command of this name."""
        if name not in self.state.table:
            raise NoCommand(f"no command {name}")
        return self.state.table[name]

    def places(self, name):
        """The places of a told command, None of an own one."""
        command = self.command(name)
        if command[0] == "own":
            return None
        return place_texts(command[1])

    def body(self, name):
        """The script of a told command, None of an own one."""
        command = self.command(name)
        if command[0] == "own":
            return None
        return command[2]

    def undo(self):
        """Take the last deed back."""
        if not self.deeds:
            raise Nothing("nothing to take back")
        source, before = self.deeds.pop()
        self.undone.append((source, self.state))
        self.state = before
        return source

    def redo(self):
        """Do again what was taken back last."""
        if not self.undone:
            raise Nothing("nothing to do again")
        source, behind = self.undone.pop()
        self.deeds.append((source, self.state))
        self.state = behind
        return source

    def done(self):
        """The scripts of the deeds that stand."""
        return [source for source, _ in self.deeds]

    def twin(self):
        """A land that is the same, and goes its own way."""
        other = Land()
        other.state = self.state
        other.deeds = list(self.deeds)
        other.undone = list(self.undone)
        other.step_count = self.step_count
        other.path = self.path
        return other

    def run(self, source, *, most=STEPS):
        """A run of the script on a twin of this land."""
        commands = parsed(source)
        refuse_most(most)
        return Run(Running(self.state.twin(), most), commands)

    def __eq__(self, other):
        return isinstance(other, Land) and self.state.facts() == other.state.facts()

    def __len__(self):
        return len(self.deeds)

    def __repr__(self):
        return f"Land({len(self.names())} names, {len(self.state.table)} commands)"


class Run:
    """A script that is gone through step by step, on a state of its own."""

    def __init__(self, running, commands):
        self.running = running
        self.led = Led(running, commands)

    def go(self, many=1):
        """Go on by so many steps, and tell whether it waits or how it ended."""
        if many < 1:
            raise BadCount("below 1")
        self.led.go(many)
        return self.word()

    def word(self):
        """Whether it waits, or how it ended."""
        if self.led.end is None:
            return "waits"
        return self.led.end.code

    def text(self):
        """The text with which it ended."""
        if self.led.end is None:
            return ""
        return self.led.end.worth

    def steps(self):
        """How many steps it did so far."""
        return self.running.count

    def trail(self):
        """The trail of its fault."""
        if self.led.end is None:
            return []
        return list(self.led.end.path)

    def said(self):
        """All that was said, also ahead of it."""
        return list(self.running.state.sayings)

    def left(self):
        """The land as it is now."""
        land = Land()
        land.state = self.running.state.twin()
        return land
