"""Turned signs: those that have a backslash ahead of them."""

TURN = "\\"
TURNED_SIGNS = " \\{}\"$[];#"


def turned_sign(sign):
    """The sign as it is written in a turned text."""
    if sign == "\n":
        return TURN + "n"
    if sign in TURNED_SIGNS:
        return TURN + sign
    return sign


def turned(text):
    """The text with each sign turned that has to be."""
    return "".join([turned_sign(sign) for sign in text])


def meant(sign):
    """The sign for which a backslash and this sign behind it stand."""
    if sign == "n":
        return "\n"
    return sign
