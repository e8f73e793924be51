"""Numbers as texts."""

from wordrooms.ends import Fault, told

FIGURES = "0123456789"
MOST_FIGURES = 20


def number_of(text):
    """The number that the text is, which must be written plainly."""
    figures = text[1:] if text.startswith("-") else text
    if not 1 <= len(figures) <= MOST_FIGURES or not all([sign in FIGURES for sign in figures]):
        raise Fault("no number")
    if figures.startswith("0") and text != "0":
        raise Fault("no number")
    return int(text)


def is_too_great(number):
    """Whether the number has more figures than a text may have."""
    return len(str(abs(number))) > MOST_FIGURES


def number_text(number):
    """The number as a text."""
    if is_too_great(number):
        raise Fault("too great")
    return str(number)


def told_number(number):
    """The end of a command that tells this number."""
    return told(number_text(number))


def yes_or_no(holds):
    """The end of a command that tells whether this holds."""
    return told("1" if holds else "0")
