"""Scripts: how commands are written as a text."""

from wordrooms.lists import word_text
from wordrooms.signs import is_letter
from wordrooms.turns import turned


def written(commands):
    """The script's text."""
    return "; ".join([command_text(words) for words in commands])


def command_text(words):
    """The text of one command."""
    return " ".join([pieces_text(pieces) for pieces in words])


def pieces_text(pieces):
    """The text of one word."""
    if all([kind == "text" for kind, _ in pieces]):
        return word_text("".join([worth for _, worth in pieces]))
    texts = []
    # From the end on: how a name is written depends on what stands behind it.
    for kind, worth in reversed(pieces):
        behind = texts[-1] if texts else ""
        texts.append(piece_text(kind, worth, behind))
    return "".join(list(reversed(texts)))


def piece_text(kind, worth, behind):
    """The text of one piece of a word that has a put-in; behind is what is written behind it."""
    if kind == "text":
        return turned(worth)
    if kind == "run":
        return "[" + written(worth) + "]"
    if behind != "" and is_letter(behind[0]):
        return "${" + worth + "}"
    return "$" + worth
