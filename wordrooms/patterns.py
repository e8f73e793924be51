"""What is handed to the own commands, and how it is looked at."""

from wordrooms.ends import Fault
from wordrooms.errors import BadList
from wordrooms.figures import number_of
from wordrooms.lists import read_words
from wordrooms.signs import is_name

# A "?" stands behind what may be left out, ".." behind what may stand any number of times.
PATTERNS = {
    "set": ("NAME", "TEXT?"),
    "end": ("NAME",),
    "has": ("NAME",),
    "add": ("NAME", "N?"),
    "put": ("NAME", "WORD.."),
    "sum": ("N..",),
    "times": ("N..",),
    "minus": ("N", "N"),
    "rest": ("N", "N"),
    "less": ("N", "N"),
    "same": ("TEXT", "TEXT"),
    "not": ("N",),
    "list": ("WORD..",),
    "many": ("LIST",),
    "at": ("LIST", "N"),
    "cut": ("LIST", "N", "N"),
    "join": ("LIST..",),
    "if": ("N", "SCRIPT", "SCRIPT?"),
    "while": ("SCRIPT", "SCRIPT"),
    "each": ("NAME", "LIST", "SCRIPT"),
    "stop": (),
    "next": (),
    "tell": ("TEXT?",),
    "fail": ("TEXT",),
    "catch": ("SCRIPT", "NAME?"),
    "do": ("SCRIPT", "WORD.."),
    "told": ("NAME", "LIST", "SCRIPT"),
    "rename": ("NAME", "TEXT"),
    "above": ("ROOM", "SCRIPT"),
    "link": ("ROOM", "NAME", "NAME"),
    "watch": ("NAME", "LIST", "LIST"),
    "silence": ("NAME",),
    "say": ("TEXT",),
    "here": (),
    "names": (),
}


def things_of(own, words):
    """What is handed to the own command: names and texts, numbers, lists of words."""
    pattern = PATTERNS[own]
    refuse_count(pattern, len(words))
    return [thing_of(pattern[min(at, len(pattern) - 1)], word) for at, word in enumerate(words)]


def refuse_count(pattern, many):
    """Raise the fault where not so many things may be handed over."""
    least = len([kind for kind in pattern if kind[-1] not in "?."])
    endless = len(pattern) > 0 and pattern[-1].endswith("..")
    if many < least or (many > len(pattern) and not endless):
        raise Fault("wrong count")


def thing_of(kind, word):
    """The word as its kind wants it."""
    plain = kind.rstrip("?.")
    if plain == "NAME":
        return name_of(word)
    if plain == "N" or (plain == "ROOM" and word != "top"):
        return number_of(word)
    if plain == "LIST":
        return list_of(word)
    return word


def name_of(word):
    """The word, which must be a name."""
    if not is_name(word):
        raise Fault("bad name")
    return word


def list_of(word):
    """The words of the list that the word is."""
    try:
        return read_words(word)
    except BadList:
        raise Fault("no list") from None
