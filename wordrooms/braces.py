"""Braces and their pairs."""


def pair_end(text, start):
    """The place of the brace that pairs with the opening one at start, or None."""
    many = 0
    for at in range(start, len(text)):
        if text[at] == "{":
            many += 1
        elif text[at] == "}":
            many -= 1
            if many == 0:
                return at
    return None


def can_stand_in_braces(word):
    """Whether the word's own braces pair, so that braces around it pair with each other."""
    return pair_end("{" + word + "}", 0) == len(word) + 1
