"""The own commands that touch names."""

from wordrooms.ends import fitting, told
from wordrooms.figures import number_of, number_text, yes_or_no
from wordrooms.lists import list_text
from wordrooms.patterns import list_of
from wordrooms.rooms import has_text
from wordrooms.touches import finish, read, write


def set_name(call):
    """Set the name and tell the text, or read the name."""
    if len(call.things) == 1:
        return read(call.running, call.room, call.things[0], told)
    return write_and_tell(call, call.things[1])


def end_name(call):
    """End the name."""
    return finish(call.running, call.room, call.things[0], lambda: told(""))


def has_name(call):
    """Whether the name has a text; it isn't read."""
    return yes_or_no(has_text(call.room, call.things[0]))


def add_to_name(call):
    """Set the name to a greater number."""
    more = call.things[1] if len(call.things) == 2 else 1
    return read(call.running, call.room, call.things[0], lambda text: added(call, text, more))


def added(call, text, more):
    """Set the name to so much more than the number that its text is."""
    return write_and_tell(call, number_text(number_of(text) + more))


def put_to_name(call):
    """Set the name to a longer list."""
    name = call.things[0]
    if has_text(call.room, name):
        return read(call.running, call.room, name, lambda text: lengthened(call, text))
    return lengthened(call, "")


def lengthened(call, text):
    """Set the name to the list that its text is, with the words behind it."""
    longer = list_text(list_of(text) + call.things[1:])
    return write_and_tell(call, fitting(longer))


def write_and_tell(call, text):
    """Set the name to the text and tell it, whatever its watchers set the name to."""
    return write(call.running, call.room, call.things[0], text, lambda: told(text))


KEEPING = {
    "set": set_name,
    "end": end_name,
    "has": has_name,
    "add": add_to_name,
    "put": put_to_name,
}
