"""Pages: how a land is written as a text, and read from it."""

from wordrooms.errors import BadList, BadPage
from wordrooms.land import Land
from wordrooms.lists import list_text, read_words
from wordrooms.makings import are_touches
from wordrooms.patterns import PATTERNS
from wordrooms.places import place_texts, places_of
from wordrooms.rooms import reached
from wordrooms.signs import LONGEST, is_name
from wordrooms.states import State

# The kinds of rows in their order: texts and links stand among one another.
RANKS = {"own": 0, "told": 1, "text": 2, "link": 2, "watch": 3}
SIZES = {"own": 3, "told": 4, "text": 3, "link": 3, "watch": 4}


def page(land):
    """The page of the land."""
    state = land.state
    rows = own_rows(state.table) + told_rows(state.table) + name_rows(state) + watch_rows(state.top)
    return list_text([list_text(row) for row in rows])


def own_rows(table):
    """The rows of the own commands."""
    return [["own", name, table[name][1]] for name in sorted(table) if table[name][0] == "own"]


def told_rows(table):
    """The rows of the told commands."""
    told = [name for name in sorted(table) if table[name][0] == "told"]
    return [["told", name, list_text(place_texts(table[name][1])), table[name][2]] for name in told]


def name_rows(state):
    """The rows of the top room's names."""
    texts = [[name, "text", text] for name, text in state.top.texts.items()]
    links = [[name, "link", last] for name, last in state.straight_links()]
    return [[kind, name, worth] for name, kind, worth in sorted(texts + links)]


def watch_rows(room):
    """The rows of the room's watchers."""
    rows = []
    for name in sorted(room.watchers):
        for words, command in room.watchers[name]:
            rows.append(["watch", name, list_text(words), list_text(command)])
    return rows


def read_page(text):
    """The land of this page."""
    reader = PageReader()
    rows = reader.list_in(text)
    for number, row in enumerate(rows):
        reader.number = number
        reader.take_row(reader.list_in(row))
    land = Land()
    land.state = reader.state
    return land


class PageReader:
    """Goes through the rows of a page; number is that of the row, rank and name those of the last one."""

    def __init__(self):
        self.state = State()
        self.number = 0
        self.rank = 0
        self.name = ""

    def refuse_unless(self, holds):
        """Refuse the page for the row, unless this holds."""
        if not holds:
            raise BadPage(self.number)

    def list_in(self, text):
        """The words of a list's text, which must be written as lists are."""
        try:
            words = read_words(text)
        except BadList:
            raise BadPage(self.number) from None
        self.refuse_unless(list_text(words) == text)
        return words

    def take_row(self, row):
        """Take what the row tells into the state."""
        self.refuse_unless(len(row) > 0 and row[0] in RANKS)
        kind = row[0]
        self.refuse_unless(len(row) == SIZES[kind] and is_name(row[1]))
        self.take_place(RANKS[kind], row[1], kind == "watch")
        if kind == "own":
            self.take_own(row[1], row[2])
        elif kind == "told":
            self.take_told(row[1], row[2], row[3])
        elif kind == "text":
            self.take_text(row[1], row[2])
        elif kind == "link":
            self.take_link(row[1], row[2])
        else:
            self.take_watcher(row[1], row[2], row[3])

    def take_place(self, rank, name, may_stay):
        """Go on to a row of this rank and name; some may have the name of the one ahead."""
        rises = rank > self.rank or name > self.name or (may_stay and name == self.name)
        self.refuse_unless(rank >= self.rank and rises)
        self.rank = rank
        self.name = name

    def take_own(self, name, own):
        """Take an own command."""
        self.refuse_unless(own in PATTERNS)
        self.refuse_unless(("own", own) not in list(self.state.table.values()))
        self.state.table[name] = ("own", own)

    def take_told(self, name, words, body):
        """Take a told command."""
        self.refuse_unless(name not in self.state.table)
        texts = self.list_in(words)
        places = places_of(texts)
        self.refuse_unless(places is not None)
        self.refuse_unless(place_texts(places) == texts and len(body) <= LONGEST)
        self.state.table[name] = ("told", places, body)

    def take_text(self, name, text):
        """Take a name's text."""
        self.refuse_unless(len(text) <= LONGEST)
        self.state.top.texts[name] = text

    def take_link(self, name, last):
        """Take a link; none may lead to itself in the end."""
        top = self.state.top
        self.refuse_unless(is_name(last) and reached(top, last)[1] != name)
        top.links[name] = (top, last)

    def take_watcher(self, name, words, command):
        """Take a watcher; links have none of their own."""
        touches = self.list_in(words)
        told = self.list_in(command)
        self.refuse_unless(name not in self.state.top.links and are_touches(touches) and told != [])
        self.state.top.watchers[name] = self.state.top.watchers.get(name, ()) + ((tuple(touches), tuple(told)),)
