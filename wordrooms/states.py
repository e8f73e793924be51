"""What a land is between its deeds, and what a running of a script does to it."""

from wordrooms.ends import TooManySteps
from wordrooms.patterns import PATTERNS
from wordrooms.rooms import Room


class State:
    """The commands, the top room and what was said.

    A command is ("own", first name) or ("told", places, script).
    """

    def __init__(self):
        self.table = {}
        self.top = Room(0, None)
        self.sayings = []

    def twin(self):
        """A state that is the same and has nothing to do with this one."""
        other = State()
        other.table = dict(self.table)
        other.top.texts = dict(self.top.texts)
        # The names of the top room lead to names of the top room alone.
        other.top.links = {name: (other.top, last) for name, last in self.straight_links()}
        other.top.watchers = dict(self.top.watchers)
        other.sayings = list(self.sayings)
        return other

    def straight_links(self):
        """The links of the top room, each with the name to which it leads straight."""
        return [(name, link[1]) for name, link in self.top.links.items()]

    def facts(self):
        """What is the same of two lands that are equal."""
        return (self.table, self.top.texts, dict(self.straight_links()), self.top.watchers)


class Running:
    """A script that is being run on a state, with the steps that it did."""

    def __init__(self, state, most):
        self.state = state
        self.most = most
        self.count = 0
        self.silent = {}
        self.rooms = 0

    def begin_step(self):
        """Count a step more."""
        if self.count == self.most:
            raise TooManySteps()
        self.count += 1

    def new_room(self, above):
        """A room for a told command that is called in this one."""
        self.rooms += 1
        return Room(self.rooms, above)


def first_state():
    """The state with all own commands, and nothing else."""
    state = State()
    state.table = {name: ("own", name) for name in PATTERNS}
    return state
