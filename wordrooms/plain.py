"""The plain way to run a script: from its text, command by command."""

from wordrooms.calls import called, commands_of, joined_word, name_text, one_command
from wordrooms.ends import DONE, End, Need, attempted, cut_off, failed, outermost, refuse_deeper, told


def run_plain(running, commands):
    """How the script ends, run in the top room."""
    plain = Plain(running)
    return outermost(cut_off(lambda: plain.run_script(commands, running.state.top)))


class Plain:
    """Runs scripts within one another, each one by a call of its own."""

    def __init__(self, running):
        self.running = running
        self.within = 0

    def run_script(self, commands, room):
        """How the commands end as one script."""
        refuse_deeper(self.within)
        self.within += 1
        end = told("")
        for words in commands:
            end = self.run_command(words, room)
            if end.code != DONE:
                break
        self.within -= 1
        return end

    def run_command(self, words, room):
        """How the command ends."""
        made = []
        for pieces in words:
            end = self.make_word(pieces, room)
            if end.code != DONE:
                return end
            made.append(end.worth)
        return self.settled(called(self.running, room, made))

    def make_word(self, pieces, room):
        """The word's text, or how it ends that one of its pieces can't be made."""
        texts = []
        for kind, worth in pieces:
            end = self.make_piece(kind, worth, room)
            if end.code != DONE:
                return end
            texts.append(end.worth)
        return joined_word(texts)

    def make_piece(self, kind, worth, room):
        """The piece's text, or how it ends that it can't be made."""
        if kind == "text":
            return End(DONE, worth)
        if kind == "name":
            return self.settled(name_text(self.running, room, worth))
        return self.run_script(worth, room)

    def settled(self, outcome):
        """The end that comes of the outcome, all that it needs being run."""
        while isinstance(outcome, Need):
            outcome = attempted(outcome.then, self.run_needed(outcome))
        return outcome

    def run_needed(self, need):
        """How the script ends that is needed."""
        if need.words is not None:
            return self.run_script(one_command(need.words), need.room)
        refuse_deeper(self.within)
        commands = commands_of(need.source)
        if commands is None:
            return failed("bad script")
        return self.run_script(commands, need.room)
