"""The led way to run a script: by rows, which are kept and gone through step by step."""

from wordrooms.calls import called, commands_of, joined_word, name_text, one_command
from wordrooms.ends import DONE, End, Need, attempted, cut_off, failed, outermost, passed_on, refuse_deeper
from wordrooms.rows import CALL, WORD, rows_of


def run_led(running, commands):
    """How the script ends, run in the top room."""
    led = Led(running, commands)
    # More steps than may be done: it doesn't wait.
    led.go(running.most + 1)
    return led.end


class Level:
    """A script that is being gone through; then gets its end."""

    def __init__(self, rows, room, then):
        self.rows = rows
        self.room = room
        self.then = then
        self.at = 0
        self.texts = []
        self.words = []
        self.last = ""

    def calls(self):
        """Whether a command is called next."""
        return self.at < len(self.rows) and self.rows[self.at][0] == CALL

    def take(self, text):
        """Go on behind the row of which this text came."""
        kind = self.rows[self.at][0]
        if kind == WORD:
            self.words.append(text)
            self.texts = []
        elif kind == CALL:
            self.last = text
            self.words = []
        else:
            self.texts.append(text)
        self.at += 1


class Led:
    """Goes through the rows of scripts within one another; end is None while it waits."""

    def __init__(self, running, commands):
        self.running = running
        self.kept = {}
        self.levels = [Level(rows_of(commands), running.state.top, passed_on)]
        self.end = None

    def go(self, many):
        """Go on by so many steps: up to where one more would begin, or to the end."""
        goal = self.running.count + many
        self.end = cut_off(lambda: self.go_until(goal))

    def go_until(self, many):
        """How it ends, or None where it waits with so many steps done."""
        while self.end is None and not self.waits(many):
            self.settle(self.advance())
        return self.end

    def waits(self, many):
        """Whether a step more than so many would begin."""
        return self.running.count == many and self.levels[-1].calls()

    def advance(self):
        """What comes of the innermost script's row, or of its end."""
        level = self.levels[-1]
        if level.at == len(level.rows):
            return self.close(End(DONE, level.last))
        kind, worth = level.rows[level.at]
        if kind == CALL:
            return called(self.running, level.room, level.words)
        if kind == WORD:
            return joined_word(level.texts)
        if kind == "name":
            return name_text(self.running, level.room, worth)
        if kind == "run":
            return self.enter(worth, level.room, passed_on)
        return End(DONE, worth)

    def settle(self, outcome):
        """Hand the outcome to the innermost script, and its end outwards where this ends it."""
        while outcome is not None:
            if isinstance(outcome, Need):
                outcome = self.begin(outcome)
            elif not self.levels:
                self.end = outermost(outcome)
                outcome = None
            elif outcome.code == DONE:
                self.levels[-1].take(outcome.worth)
                outcome = None
            else:
                outcome = self.close(outcome)

    def begin(self, need):
        """Enter the script that is needed; what comes of it where it is none."""
        if need.words is not None:
            return self.enter(rows_of(one_command(need.words)), need.room, need.then)
        refuse_deeper(len(self.levels))
        rows = self.kept_rows(need.source)
        if rows is None:
            return attempted(need.then, failed("bad script"))
        return self.enter(rows, need.room, need.then)

    def enter(self, rows, room, then):
        """Go through these rows ahead of all else; nothing comes of it yet."""
        refuse_deeper(len(self.levels))
        self.levels.append(Level(rows, room, then))
        return None

    def close(self, end):
        """What comes of the innermost script, which ends so."""
        level = self.levels.pop()
        return attempted(level.then, end)

    def kept_rows(self, source):
        """The rows of the script, made when it is run first, or None where it is none."""
        if source not in self.kept:
            commands = commands_of(source)
            self.kept[source] = None if commands is None else rows_of(commands)
        return self.kept[source]
