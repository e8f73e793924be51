"""Rooms of names."""


class Room:
    """Names with their texts, links and watchers.

    A link leads straight to a room and a name. Watchers are pairs of words and a list, in a tuple:
    who has it at a touch keeps it, whatever becomes of the name's watchers.
    """

    def __init__(self, number, above):
        self.number = number
        self.above = above
        self.texts = {}
        self.links = {}
        self.watchers = {}


def reached(room, name):
    """The room and the name to which this one leads in the end: they themselves, where it is no link."""
    while name in room.links:
        room, name = room.links[name]
    return room, name


def has_text(room, name):
    """Whether the name has a text in this room."""
    home, last = reached(room, name)
    return last in home.texts


def names_with_text(room):
    """The names that have a text in this room, rising."""
    linked = [name for name in room.links if has_text(room, name)]
    return sorted(list(room.texts) + linked)


def room_at(room, where):
    """The room so many above this one, or the top one, or None where there is none."""
    if where == "top":
        return room_above(room, rooms_above(room))
    if where < 0:
        return None
    return room_above(room, where)


def room_above(room, many):
    """The room so many above this one, or None."""
    while many > 0 and room is not None:
        room = room.above
        many -= 1
    return room


def rooms_above(room):
    """How many rooms are above this one."""
    many = 0
    while room.above is not None:
        room = room.above
        many += 1
    return many
