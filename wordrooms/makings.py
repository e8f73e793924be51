"""The own commands that change commands, rooms and watchers, or tell of them."""

from wordrooms.ends import Fault, told
from wordrooms.figures import told_number
from wordrooms.lists import list_text
from wordrooms.places import places_of
from wordrooms.rooms import has_text, names_with_text, reached, room_at, rooms_above
from wordrooms.signs import is_name

TOUCHES = ("read", "set", "end")


def make_command(call):
    """Make a told command, in place of what has the name."""
    name, words, body = call.things
    places = places_of(words)
    if places is None:
        raise Fault("bad places")
    call.running.state.table[name] = ("told", places, body)
    return told("")


def rename_command(call):
    """Give the command another name, or none."""
    old, new = call.things
    table = call.running.state.table
    if old not in table:
        raise Fault("no command")
    if new != "" and not is_name(new):
        raise Fault("bad name")
    if new in table:
        raise Fault("taken")
    command = table.pop(old)
    if new != "":
        table[new] = command
    return told("")


def link_name(call):
    """Make a name of this room a link to one of a room above."""
    where, first, last = call.things
    there = room_at(call.room, where)
    if there is None:
        raise Fault("no room")
    here = call.room
    if last in here.links or has_text(here, last):
        raise Fault("taken")
    home, goal = reached(there, first)
    if home.number == here.number and goal == last:
        raise Fault("own name")
    here.links[last] = (home, goal)
    if last in here.watchers:
        del here.watchers[last]
    return told("")


def watch_name(call):
    """Give the name one watcher more."""
    name, words, command = call.things
    if not are_touches(words) or command == []:
        raise Fault("bad words")
    home, last = reached(call.room, name)
    home.watchers[last] = home.watchers.get(last, ()) + ((tuple(words), tuple(command)),)
    return told("")


def are_touches(words):
    """Whether these are words of touches, one at least, all unlike."""
    known = [word for word in words if word in TOUCHES]
    return 0 < len(words) == len(known) == len(set(words))


def silence_name(call):
    """Take all watchers from the name."""
    home, last = reached(call.room, call.things[0])
    if last in home.watchers:
        del home.watchers[last]
    return told("")


def say(call):
    """Say the text."""
    call.running.state.sayings.append(call.things[0])
    return told("")


def tell_here(call):
    """How many rooms are above this one."""
    return told_number(rooms_above(call.room))


def tell_names(call):
    """The list of the names that have a text here."""
    return told(list_text(names_with_text(call.room)))


MAKINGS = {
    "told": make_command,
    "rename": rename_command,
    "link": link_name,
    "watch": watch_name,
    "silence": silence_name,
    "say": say,
    "here": tell_here,
    "names": tell_names,
}
