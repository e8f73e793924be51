"""How commands and scripts end, and what has to be run ahead of an end."""

from wordrooms.signs import LONGEST

DEEPEST = 24
DONE = "done"
FAILED = "failed"
TELL = "tell"
STOP = "stop"
NEXT = "next"
TIRED = "tired"
DEEP = "deep"


class Fault(Exception):
    """A command's fault; why is its text."""

    def __init__(self, why):
        self.why = why


class TooManySteps(Exception):
    """A step more would be done than may be."""


class TooDeep(Exception):
    """A script more would be run within the others than may be."""


class End:
    """A code and a text; of a fault also the trail, the innermost name first."""

    def __init__(self, code, worth, path=()):
        self.code = code
        self.worth = worth
        self.path = path


class Need:
    """A script that has to be run in a room; how it ends is handed to then, which tells what comes of it.

    It is read from its source when it is run, or it is one command of these words.
    """

    def __init__(self, room, then, source="", words=None):
        self.room = room
        self.then = then
        self.source = source
        self.words = words


def fitting(text):
    """The text, which must not have more signs than a text may have."""
    if len(text) > LONGEST:
        raise Fault("too long")
    return text


def told(text):
    """The end of a command that tells this text."""
    return End(DONE, fitting(text))


def failed(why):
    """The end of what has this fault."""
    return End(FAILED, why)


def passed_on(end):
    """The end of what ends as its script does."""
    return end


def attempted(action, *things):
    """What the action tells: an end or a need; its fault as an end."""
    try:
        return action(*things)
    except Fault as fault:
        return failed(fault.why)


def cut_off(action):
    """How the action ends, or how it is cut off: what it did stays done."""
    try:
        return action()
    except TooManySteps:
        return End(TIRED, "")
    except TooDeep:
        return End(DEEP, "")


def refuse_deeper(many):
    """Raise TooDeep where no script may be run within so many."""
    if many >= DEEPEST:
        raise TooDeep()


def outermost(end):
    """The end of the outermost script, as it is told to those who have it run."""
    if end.code == TELL:
        return End(DONE, end.worth)
    if end.code in (STOP, NEXT):
        return failed(stray(end.code))
    return end


def stray(code):
    """The fault of a code that goes beyond what it could end."""
    return f"stray {code}"
