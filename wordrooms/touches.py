"""How names are read, set and ended, and how their watchers speak."""

from wordrooms.ends import FAILED, Fault, Need
from wordrooms.rooms import reached


class Touch:
    """A touch of a name: what its watchers run, and what is done behind them."""

    def __init__(self, running, room, key, speeches, then):
        self.running = running
        self.room = room
        self.key = key
        self.speeches = speeches
        self.then = then


def read(running, room, name, then):
    """Read the name; its text is handed to then."""
    return touched(running, room, name, "read", lambda: then(text_of(room, name)))


def write(running, room, name, text, then):
    """Set the name to the text, and go on with then."""
    home, last = reached(room, name)
    home.texts[last] = text
    return touched(running, room, name, "set", then)


def finish(running, room, name, then):
    """End the name, and go on with then."""
    home, last = home_of_text(room, name)
    del home.texts[last]
    return touched(running, room, name, "end", then)


def text_of(room, name):
    """The text of the name."""
    home, last = home_of_text(room, name)
    return home.texts[last]


def home_of_text(room, name):
    """The room and the name that have the text of this name."""
    home, last = reached(room, name)
    if last not in home.texts:
        raise Fault(f"no name {name}")
    return home, last


def touched(running, room, name, word, then):
    """Run the name's watchers for the word, and go on with then."""
    home, last = reached(room, name)
    key = (home.number, last)
    if key in running.silent:
        return then()
    watchers = home.watchers.get(last, ())
    speeches = [command + (name, word) for words, command in watchers if word in words]
    return speak_from(Touch(running, room, key, speeches, then), 0)


def speak_from(touch, at):
    """Run the watchers from the one at this place on."""
    if at == len(touch.speeches):
        return touch.then()
    touch.running.silent[touch.key] = True
    return Need(touch.room, lambda end: heard(touch, at, end), words=touch.speeches[at])


def heard(touch, at, end):
    """Go on behind the watcher at this place, which ended so."""
    del touch.running.silent[touch.key]
    if end.code == FAILED:
        return end
    return speak_from(touch, at + 1)
