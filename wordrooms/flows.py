"""The own commands that run scripts, and those that end them."""

from wordrooms.ends import DONE, NEXT, STOP, TELL, End, Fault, Need, failed, fitting, passed_on, told
from wordrooms.figures import number_of, told_number
from wordrooms.lists import list_text
from wordrooms.rooms import room_at
from wordrooms.touches import write

CAUGHT = {"done": 0, "failed": 1, "tell": 2, "stop": 3, "next": 4}


def choose(call):
    """Run the first script where the number is a yes, else the second one, if there is one."""
    scripts = call.things[1:]
    if call.things[0] != 0:
        return Need(call.room, passed_on, scripts[0])
    if len(scripts) == 2:
        return Need(call.room, passed_on, scripts[1])
    return told("")


def go_round(call):
    """Run the script as long as the test tells yes."""
    return Need(call.room, lambda end: tested(call, end), call.things[0])


def tested(call, end):
    """Go on behind the test, which ended so."""
    if end.code != DONE:
        return end
    if number_of(end.worth) == 0:
        return told("")
    return Need(call.room, lambda last: went_round(call, last), call.things[1])


def went_round(call, end):
    """Go on behind the script, which ended so."""
    over = end_of_rounds(end)
    if over is None:
        return go_round(call)
    return over


def end_of_rounds(end):
    """The end of all rounds behind one that ended so, or None where they go on."""
    if end.code == STOP:
        return told("")
    if end.code in (DONE, NEXT):
        return None
    return end


def go_over(call):
    """Set the name to each word of the list, and run the script each time."""
    return go_over_from(call, 0)


def go_over_from(call, at):
    """Go over the words from the one at this place on."""
    name, words, source = call.things
    if at == len(words):
        return told("")
    need = Need(call.room, lambda end: went_over(call, at, end), source)
    return write(call.running, call.room, name, words[at], lambda: need)


def went_over(call, at, end):
    """Go on behind the script for the word at this place, which ended so."""
    over = end_of_rounds(end)
    if over is None:
        return go_over_from(call, at + 1)
    return over


def stop(call):
    """End a script and the rounds of it."""
    return End(STOP, "")


def go_next(call):
    """End a script, but not the rounds of it."""
    return End(NEXT, "")


def tell(call):
    """End a told command with a text."""
    return End(TELL, call.things[0] if call.things else "")


def fail(call):
    """End with a fault."""
    return failed(call.things[0])


def catch(call):
    """Run the script, and tell the number of its code."""
    return Need(call.room, lambda end: caught(call, end), call.things[0])


def caught(call, end):
    """Tell the number of the code; the name, where there is one, gets the text."""
    number = CAUGHT[end.code]
    if len(call.things) == 1:
        return told_number(number)
    return write(call.running, call.room, call.things[1], end.worth, lambda: told_number(number))


def do(call):
    """Run a script, or the list of all words as one."""
    if len(call.things) == 1:
        return Need(call.room, passed_on, call.things[0])
    return Need(call.room, passed_on, fitting(list_text(call.things)))


def do_above(call):
    """Run a script in a room above."""
    room = room_at(call.room, call.things[0])
    if room is None:
        raise Fault("no room")
    return Need(room, passed_on, call.things[1])


FLOWS = {
    "if": choose,
    "while": go_round,
    "each": go_over,
    "stop": stop,
    "next": go_next,
    "tell": tell,
    "fail": fail,
    "catch": catch,
    "do": do,
    "above": do_above,
}
