"""Commands that are called, with all their words."""

from wordrooms.ends import FAILED, NEXT, STOP, End, Fault, Need, attempted, stray, told
from wordrooms.errors import BadScript
from wordrooms.flows import FLOWS
from wordrooms.keeping import KEEPING
from wordrooms.makings import MAKINGS
from wordrooms.patterns import things_of
from wordrooms.places import texts_for
from wordrooms.scripts import parsed
from wordrooms.touches import read
from wordrooms.worths import WORTHS


class Call:
    """What an own command is handed: where it is called, and the things."""

    def __init__(self, running, room, things):
        self.running = running
        self.room = room
        self.things = things


def called(running, room, words):
    """What comes of the command of these words: an end or a need. It is a step."""
    running.begin_step()
    return attempted(outcome_of, running, room, words)


def outcome_of(running, room, words):
    """What comes of the command of these words."""
    command = running.state.table.get(words[0])
    if command is None:
        raise Fault("no command")
    if command[0] == "own":
        own = command[1]
        action = action_of(own)
        return action(Call(running, room, things_of(own, words[1:])))
    return told_outcome(running, room, words, command)


def action_of(own):
    """The function of the own command."""
    if own in WORTHS:
        return WORTHS[own]
    if own in KEEPING:
        return KEEPING[own]
    if own in FLOWS:
        return FLOWS[own]
    return MAKINGS[own]


def told_outcome(running, room, words, command):
    """What comes of a told command: its script has to be run in a room of its own."""
    name = words[0]
    texts = texts_for(command[1], words[1:])
    inner = running.new_room(room)
    inner.texts = texts
    return Need(inner, lambda end: came_back(name, end), command[2])


def came_back(name, end):
    """The end of the told command of this name, whose script ended so."""
    if end.code == FAILED:
        return End(FAILED, end.worth, end.path + (name,))
    if end.code in (STOP, NEXT):
        return End(FAILED, stray(end.code), (name,))
    return told(end.worth)


def name_text(running, room, name):
    """What comes of a name that is put in."""
    return attempted(read, running, room, name, told)


def commands_of(source):
    """The commands of a script that is run, or None where it is none."""
    try:
        return parsed(source)
    except BadScript:
        return None


def one_command(words):
    """The commands of a script that is one command of these words."""
    return [tuple([(("text", word),) for word in words])]


def joined_word(texts):
    """What comes of a word of these texts."""
    return attempted(told, "".join(texts))
