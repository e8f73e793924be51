"""Signs, names, and how long a text may be."""

from wordrooms.errors import BadText

LONGEST = 1000
LONGEST_NAME = 8
WHITE = " \n"


def is_letter(sign):
    """Whether the sign is a letter of which names are made."""
    return "a" <= sign <= "z"


def is_name(text):
    """Whether the text is a name."""
    return 1 <= len(text) <= LONGEST_NAME and all([is_letter(sign) for sign in text])


def refuse_long(text):
    """Raise BadText where the text has more signs than a text may have."""
    if len(text) > LONGEST:
        raise BadText(f"more than {LONGEST} signs")
