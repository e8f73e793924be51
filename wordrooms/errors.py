"""The errors of the program, one class for each kind of failure."""


class RoomError(ValueError):
    """What is handed in is refused."""


class BadList(RoomError):
    """A text that is no list's; place is that of the first wrong sign."""

    def __init__(self, place):
        self.place = place


class BadScript(RoomError):
    """A text that is no script; place is that of the first wrong sign."""

    def __init__(self, place):
        self.place = place


class BadPage(RoomError):
    """A text that is no page; place is the number of the first wrong row."""

    def __init__(self, place):
        self.place = place


class BadText(RoomError):
    """A text of more than LONGEST signs."""


class BadCount(RoomError):
    """A number that is too small or too great for what it counts."""


class BadWay(RoomError):
    """A way of running that there isn't."""


class Missing(LookupError):
    """What is asked for isn't there."""


class NoName(Missing):
    """There is no such name."""


class NoCommand(Missing):
    """There is no such command."""


class Nothing(Missing):
    """There is nothing to take back or to do again."""
