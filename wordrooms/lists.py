"""Lists: how words are written as a text, and read from it."""

from wordrooms.braces import can_stand_in_braces, pair_end
from wordrooms.errors import BadList
from wordrooms.signs import WHITE, refuse_long
from wordrooms.turns import TURN, meant, turned


def word_text(word):
    """The word as it is written in a list."""
    in_braces = "{" + word + "}"
    if word == "":
        return in_braces
    by_turns = turned(word)
    if len(in_braces) <= len(by_turns) and can_stand_in_braces(word):
        return in_braces
    return by_turns


def list_text(words):
    """The list's text."""
    return " ".join([word_text(word) for word in words])


def read_list(text):
    """The list of words of which this is a text."""
    refuse_long(text)
    return read_words(text)


def read_words(text):
    """The words of a list's text of any length: a page, and what stands in it, may be longer than other texts."""
    words = []
    at = behind_white(text, 0)
    while at < len(text):
        word, end = read_word(text, at)
        words.append(word)
        at = behind_white(text, end)
    return words


def behind_white(text, start):
    """The first place from start on where no white stands."""
    at = start
    while at < len(text) and text[at] in WHITE:
        at += 1
    return at


def read_word(text, start):
    """The word that begins at start, and the place behind it."""
    if text[start] == "{":
        return read_braced(text, start)
    return read_bare(text, start)


def read_braced(text, start):
    """The word in braces that begins at start, and the place behind it."""
    end = pair_end(text, start)
    if end is None:
        raise BadList(start)
    behind = end + 1
    if behind < len(text) and text[behind] not in WHITE:
        raise BadList(behind)
    return text[start + 1:end], behind


def read_bare(text, start):
    """The word without braces that begins at start, and the place behind it."""
    signs = []
    at = start
    while at < len(text) and text[at] not in WHITE:
        if text[at] != TURN:
            signs.append(text[at])
            at += 1
        elif at + 1 < len(text):
            signs.append(meant(text[at + 1]))
            at += 2
        else:
            raise BadList(at)
    return "".join(signs), at
