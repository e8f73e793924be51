"""Scripts: how commands, words and pieces are read from a text."""

from wordrooms.braces import pair_end
from wordrooms.errors import BadScript
from wordrooms.signs import is_letter, is_name, refuse_long
from wordrooms.turns import TURN, meant

COMMAND_ENDS = "\n;"
MOST_RUNS = 12


def parsed(text):
    """The list of the script's commands."""
    refuse_long(text)
    reader = Reader(text)
    return reader.read_script()


def joined(pieces):
    """The pieces as a tuple, texts that stand side by side made one."""
    rows = []
    for kind, worth in pieces:
        if kind == "text" and rows and rows[-1][0] == "text":
            rows[-1] = ("text", rows[-1][1] + worth)
        else:
            rows.append((kind, worth))
    return tuple(rows)


class Reader:
    """Goes through a script's text once, from the left to the right."""

    def __init__(self, source):
        self.source = source
        self.at = 0
        self.within = 0

    def ends_text(self):
        """Whether the text has been read to its end."""
        return self.at == len(self.source)

    def ends_script(self):
        """Whether the script, or the run that is being read, ends here."""
        return self.ends_text() or (self.within > 0 and self.source[self.at] == "]")

    def ends_command(self):
        """Whether a command ends here."""
        return self.ends_script() or self.source[self.at] in COMMAND_ENDS

    def ends_word(self):
        """Whether a word ends here, unless it is in quotes."""
        return self.ends_command() or self.source[self.at] == " "

    def read_script(self):
        """The list of the commands up to the script's end."""
        commands = []
        while not self.ends_script():
            # As the script doesn't end here, this is a blank or stands between commands.
            if self.ends_word():
                self.at += 1
            elif self.source[self.at] == "#":
                self.pass_remark()
            else:
                commands.append(self.read_command())
        return commands

    def pass_remark(self):
        """Go on to the next line feed: no other sign ends a remark."""
        while not self.ends_text() and self.source[self.at] != "\n":
            self.at += 1

    def read_command(self):
        """The words of the command that begins here."""
        words = []
        while not self.ends_command():
            if self.ends_word():
                self.at += 1
            else:
                words.append(self.read_word())
        return tuple(words)

    def read_word(self):
        """The pieces of the word that begins here."""
        if self.source[self.at] == "{":
            pieces = self.read_braced()
        elif self.source[self.at] == "\"":
            pieces = self.read_quoted()
        else:
            pieces = self.read_bare()
        if not self.ends_word():
            raise BadScript(self.at)
        return joined(pieces)

    def read_braced(self):
        """The pieces of a word in braces: its text, or none where it is empty."""
        start = self.at
        end = pair_end(self.source, start)
        if end is None:
            raise BadScript(start)
        self.at = end + 1
        if end == start + 1:
            return []
        return [("text", self.source[start + 1:end])]

    def read_quoted(self):
        """The pieces of a word in quotes."""
        start = self.at
        self.at += 1
        pieces = []
        while not self.ends_text():
            if self.source[self.at] == "\"":
                self.at += 1
                return pieces
            pieces.append(self.read_piece())
        raise BadScript(start)

    def read_bare(self):
        """The pieces of a word without braces and quotes."""
        pieces = []
        while not self.ends_word():
            pieces.append(self.read_piece())
        return pieces

    def read_piece(self):
        """The put-in that begins here, or the one sign that stands here."""
        sign = self.source[self.at]
        if sign == TURN:
            return ("text", self.read_turned())
        if sign == "$":
            return ("name", self.read_name())
        if sign == "[":
            return ("run", self.read_run())
        self.at += 1
        return ("text", sign)

    def read_turned(self):
        """The sign for which a backslash and the sign behind it stand."""
        behind = self.at + 1
        if behind == len(self.source):
            raise BadScript(self.at)
        self.at = behind + 1
        return meant(self.source[behind])

    def read_name(self):
        """The name behind a dollar sign, in braces or not."""
        start = self.at
        self.at += 1
        in_braces = self.source.startswith("{", self.at)
        if in_braces:
            self.at += 1
        name = self.read_letters()
        if not is_name(name):
            raise BadScript(start)
        if in_braces:
            if not self.source.startswith("}", self.at):
                raise BadScript(start)
            self.at += 1
        return name

    def read_letters(self):
        """All letters that follow."""
        start = self.at
        while not self.ends_text() and is_letter(self.source[self.at]):
            self.at += 1
        return self.source[start:self.at]

    def read_run(self):
        """The commands between brackets."""
        start = self.at
        if self.within == MOST_RUNS:
            raise BadScript(start)
        self.at += 1
        self.within += 1
        commands = self.read_script()
        if self.ends_text():
            raise BadScript(start)
        self.at += 1
        self.within -= 1
        return tuple(commands)
