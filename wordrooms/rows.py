"""The rows that are made of a script: pairs of what is to be done and with what.

A row adds a text, a name's text or what a run tells to a word, ends a word, or calls the command.
"""

WORD = "word"
CALL = "call"


def rows_of(commands):
    """The rows of the commands."""
    rows = []
    for words in commands:
        for pieces in words:
            rows.extend([row_of(kind, worth) for kind, worth in pieces])
            rows.append((WORD, None))
        rows.append((CALL, None))
    return rows


def row_of(kind, worth):
    """The row of one piece; a run has rows of its own."""
    if kind == "run":
        return (kind, rows_of(worth))
    return (kind, worth)
